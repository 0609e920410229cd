/-
  What the proofs of FoldSame and FoldLeft need: Ye.
-/
import Derived.Test.YtcehklnonhalhaaFSYv
import Derived.Test.YtcehklnonhalhaaFSYw
import Derived.Test.YtcehklnonhalhaaFSYs
import Derived.Maps.Views
import Derived.Maps.Own
import Derived.Maps.OwnOps
import Derived.Maps.OwnSet
import Derived.WalkSmall
namespace Go.Proofs.Ytcehklnonhalhaa
open Go.RowKit
open Go.Maps (Keyed)
set_option linter.unusedVariables false
set_option maxRecDepth 4000

def kJ (x : Int) : Lit := .int .i64 x
/-- the call's own set of places. -/
def MapS (w : World) (b n : Nat) (D : DataW Unit) : Prop := w.ownsMap Try.prog 3 (plainElem Try.prog 4) b n D
theorem MapS.below {w w' : World} {b n : Nat} {D : DataW Unit} (h : MapS w b n D) (hb : Below w.heap.size w w') : MapS w' b n D := by
  obtain ⟨es, clock, h1, h2⟩ := h
  exact ⟨es, clock, (hb.block b (Array.getElem?_eq_some_iff.1 h1).1).trans h1, h2⟩
theorem wf_j64 {x : Int} (h0 : 0 ≤ x) (h1 : x ≤ 1000000) : (Lit.int .i64 x).wf = true := by
  have e1 : IntKind.i64.min = -9223372036854775808 := rfl
  have e2 : IntKind.i64.max = 9223372036854775807 := rfl
  simp [Lit.wf]
  omega
/-- how many the map holds. -/
def mapSize (w : World) (b : Nat) : Nat := match w.heap[b]? with
  | some (.map es _) => es.size
  | _ => 0
theorem MapS.size_ {w : World} {b n : Nat} {D : DataW Unit} (h : MapS w b n D) : mapSize w b = Maps.size D := by
  obtain ⟨es, clock, hb, _, _, rfl⟩ := h
  unfold mapSize
  rw [hb]
  show es.size = (List.foldr DataW.insert [] (es.toList.map _)).length
  rw [length_sorted]
  simp
/-- the map tells of each place whether it was seen. -/
structure Se (V : List Nat) (D : DataW Unit) : Prop where
  nd : V.Nodup
  size : Maps.size D = V.length
  at_ : ∀ m : Nat, D.atKey (kJ m) (.lit (.bool false)) = .lit (.bool (decide (m ∈ V)))
  has : ∀ m : Nat, Maps.has D (kJ m) = decide (m ∈ V)
theorem Se.start : Se [] (.map []) := ⟨List.nodup_nil, rfl, fun m => rfl, fun m => rfl⟩
theorem kJ_ne {a b : Nat} (h : a ≠ b) : kJ a ≠ kJ b := fun e => by
  injection e with _ e
  exact h (by omega)
theorem Se.put {V : List Nat} {D : DataW Unit} (h : Se V D) (hm : Maps.IsMap D) (ht : Maps.Tidy D) {q : Nat} (hq : q ∉ V) : Se (q :: V) (D.put (kJ q) (.lit (.bool true))) where
  nd := List.nodup_cons.2 ⟨hq, h.nd⟩
  size := by
    rw [Maps.size_put ht, h.has q, h.size]
    simp [hq]
  at_ := fun m => by
    by_cases e : m = q
    · subst e
      rw [Maps.atKey_put_same hm (by trivial)]
      simp
    · rw [Maps.atKey_put_other (kJ_ne e), h.at_ m]
      simp [e]
  has := fun m => by
    by_cases e : m = q
    · subst e
      rw [Maps.has_put_same hm (by trivial)]
      simp
    · rw [Maps.has_put_other (kJ_ne e), h.has m]
      simp [e]
theorem wpList_lookup_bool {P : Program} (w : World) {ops : Array Oper} {rest : List Oper} {o : Oper} {a : Act} {Q : Exit → Act → World → Prop}
    (hg : o.guard = none) (m x : Operand) (t : TypeId) (hop : o.op = Op.lookup t m x false)
    (k e : TypeId) (K : Keyed P k) (ht : P.underlying t = some (.map k e)) (he : P.underlying e = some .bool) (hz : (zeroValue e).run P w = .ok (.bool false) w) (b n : Nat) (D : DataW Unit)
    (hm : a.eval m = .map (some b)) (hown : w.ownsMap P k (plainElem P e) b n D) (key : Value) (kl : Lit) (hx : a.eval x = key) (hkey : keyOf P k key = some kl) (u : Bool) (hat : D.atKey kl (.lit (.bool false)) = .lit (.bool u))
    (hK : wpList P ops Q rest (a.put o.dst (.bool u)) w) :
    wpList P ops Q (o :: rest) a w := by
  refine wpList_plain hg fun K' hK' => ?_
  obtain ⟨v, ps, hrun, hv⟩ := hown.lookup K ht hz (plainElem_bool he false) hkey
  rw [hat] at hv
  have e : v = .bool u := by
    unfold plainElem at hv
    rw [he] at hv
    cases v <;> simp at hv
    obtain ⟨h1, _⟩ := hv
    rw [h1]
  subst e
  unfold Oper.wp
  simp [execOp, hop, hm, hx, hrun, Result.andThen]
  exact hK' _ _ hK
/-- a row is no map. -/
theorem map_ne {w : World} {B b n m : Nat} {e : TypeId} {s : Nat} {D : DataW Unit} {v : Value} {xs : List Value} (h : w.ownsRow B e s v n xs) (k : MapS w b m D) : some b ≠ v.ownBlock := fun q => by
  rcases h.2 with ⟨e1, _⟩ | ⟨g, cap, cur, e1, _, hg, _⟩
  · rw [e1] at q
    cases q
  · rw [e1] at q
    injection q with q
    obtain ⟨es, clock, hb, _⟩ := k
    rw [q, hg] at hb
    cases hb
theorem snocI (T : List Int) : T = [] ∨ ∃ V q, T = V ++ [q] := by
  rcases List.eq_nil_or_concat T with h | ⟨V, q, h⟩
  · exact .inl h
  · exact .inr ⟨V, q, by simpa using h⟩
def lenW : Value → Nat
  | .slice _ n _ => n
  | _ => 0
theorem row_len {w : World} {B n : Nat} {e : TypeId} {s : Nat} {v : Value} {xs : List Value} (h : w.ownsRow B e s v n xs) : lenW v = n := by
  obtain ⟨A, c, rfl, _⟩ := row_at h
  rfl
/-- the last of a row. -/
theorem row_last {w : World} {B : Nat} {v : Value} {V : List Int} {q : Int} (h : w.ownsRow B 3 1 v (V ++ [q]).length ((V ++ [q]).flatMap inC)) : ∃ b c, v = .slice (some ⟨b, 0, none⟩) (V.length + 1) c ∧ V.length + 1 ≤ c ∧ w.cell? ⟨b, V.length, none⟩ = some (.int .i64 q) ∧ w.ownsRow B 3 1 (.slice (some ⟨b, 0, none⟩) V.length c) V.length (V.flatMap inC) := by
  have hl : (V.flatMap inC).length = V.length * 1 := flat_len inC 1 inC_len V
  rw [List.length_append, List.length_singleton, List.flatMap_append] at h
  obtain ⟨A, c, rfl, sw, _⟩ := row_at h
  rcases row_own h with ⟨_, e, _⟩ | ⟨b, rfl, _, _⟩
  · omega
  have hc := h.cellAt V.length (by omega)
  rw [List.getElem?_append_right (by omega)] at hc
  have e0 : V.length - (V.flatMap inC).length = 0 := by omega
  rw [e0] at hc
  exact ⟨b, c, rfl, sw.1, hc, ownsRow_pop hl h⟩
/-- a place that stands for itself. -/
def Gp (S : List Int) (nn : Nat) (t : Int) : Prop := ∃ m : Nat, t = (m : Int) ∧ m < nn ∧ S.getD m 0 = (m : Int)
/-- what is known of the folded net. -/
structure Lf (nn : Nat) (M : List Nd) (S : List Int) (O : List Pt) : Prop where
  outs : ∀ p ∈ O, ∀ t ∈ p.bits, Gp S nn t
  uses : ∀ q, q < nn → S.getD q 0 = (q : Int) → ∀ x, M[q]? = some x → ∀ y ∈ usesS x, Gp S nn y
  left : ∀ q, q < nn → S.getD q 0 = (q : Int) → ∀ x, M[q]? = some x → 2 ≤ x.k ∧ x.k ≤ 5 → (∀ y ∈ usesS x, (nA M y).k ≠ 0) ∧ (x.k = 2 → (nA M x.a).k ≠ 2) ∧ (x.k ≠ 2 → x.a ≠ x.b)
theorem getD_n9 {M : List Nd} {q : Nat} {x : Nd} (h : M[q]? = some x) : M.getD q nd0 = x := by rw [List.getD_eq_getElem?_getD, h]; rfl
theorem lf_of {N : List Nd} {O : List Pt} {pos : Nat → Nat} {i : Nat} {M : List Nd} {S : List Int} (hp : Pos N pos) (h : FI N pos i M S) (hall : ∀ q, q < N.length → pos q < i) (hpl : ∀ p ∈ O, ∀ q ∈ p.bits, placeS (N.length : Int) q = true) : Lf N.length (M.map (dffS S)) S (O.map (outF S)) where
  outs := fun p hp t ht => by
    obtain ⟨p0, hp0, rfl⟩ := List.mem_map.1 hp
    unfold outF at ht
    obtain ⟨z, hz, rfl⟩ := List.mem_map.1 ht
    have hz := hpl p0 hp0 z hz
    unfold placeS at hz
    simp at hz
    obtain ⟨m, rfl⟩ := Int.eq_ofNat_of_zero_le hz.1
    obtain ⟨g1, g2⟩ := h.st m (by omega) (hall m (by omega))
    have e : sA S ((m : Nat) : Int) = S.getD m 0 := by unfold sA; rw [Int.toNat_natCast]
    rw [e]
    obtain ⟨k, hk, hkn, _⟩ := g1.nat
    refine ⟨k, hk, hkn, ?_⟩
    unfold sA at g2
    rw [hk, Int.toNat_natCast] at g2
    exact g2
  uses := fun q hq hs x hx y hy => by
    obtain ⟨m, e, hm, hs2⟩ := h.rw.reach hp hall hq hs y (by rw [getD_n9 hx]; exact hy)
    exact ⟨m, e, hm, hs2⟩
  left := fun q hq hs x hx hk => h.left hp hall hq hs (getD_n9 hx) hk
set_option maxRecDepth 20000 in
set_option maxHeartbeats 16000000 in
theorem foldLeft_as {An Ai Ao : Option Addr} {nn cn ni ci no co : Nat} {N : List Nd} {I O : List Pt} {w : World} (h : NetIn w An nn cn Ai ni ci Ao no co N I O) :
    Calls Try.prog 4 #[.agg #[.slice An nn cn, .slice Ai ni ci, .slice Ao no co]] w fun en w' => en = .returned (.bool true) ∧ Below w.heap.size w w' := by
  go_enter Try.func4, Try.ntmps4
  go_upto_region 1 with fail
  obtain ⟨w1, e_w1⟩ : ∃ w', w.alloc (.cells #[.slice An nn cn, .slice Ai ni ci, .slice Ao no co] 25) = w' := ⟨_, rfl⟩
  have z0 : Bx w1 w.heap.size [.slice An nn cn, .slice Ai ni ci, .slice Ao no co] := e_w1 ▸ Bx.made_k w rfl #[.slice An nn cn, .slice Ai ni ci, .slice Ao no co] 25
  have BW : Below w.heap.size w w1 := e_w1 ▸ below_lit _ _
  rw [e_w1]
  clear e_w1
  replace h := h.on BW
  go_wp2_with fail
  refine (awake9_any _).mono ?_
  rintro en w2 ⟨rfl, b⟩
  replace h := h.on b
  replace z0 := z0.on b
  replace BW := Below.step BW b
  clear b
  obtain ⟨v, hv⟩ : ∃ v, largeS nn ni no I O 60 = v := ⟨_, rfl⟩
  have HV := Lib.hid hv
  clear hv
  have c0 := z0.2 0 _ rfl; have c1 := z0.2 1 _ rfl; have c2 := z0.2 2 _ rfl
  go_wp2_with fail
  refine (h.large v HV.out).mono ?_
  rintro en w3 ⟨rfl, b⟩
  clear c0 c1 c2
  replace h := h.on b
  replace z0 := z0.on b
  replace BW := Below.step BW b
  clear b
  cases v
  case true =>
    go_wp2_with fail
    go_ret
    exact ⟨rfl, BW⟩
  obtain ⟨hn, hn60, hi66, ho66, hbb⟩ := h.nt HV.out
  have HBB : Hid (∀ p ∈ I ++ O, p.bits.length ≤ 100000) := Lib.hid fun p hp => by have := (hbb p hp).1; omega
  have HB4 : Hid (∀ p ∈ O, p.bits.length ≤ 4000) := Lib.hid fun p hp => (hbb p (List.mem_append_right _ hp)).1
  have sn := h.sn
  clear h hbb HV
  obtain ⟨d, e, hl⟩ : ∃ d e, levelS N I O = (d, e) := ⟨_, _, rfl⟩
  have c0 := z0.2 0 _ rfl; have c1 := z0.2 1 _ rfl; have c2 := z0.2 2 _ rfl
  by_cases he : e = 0
  case neg =>
    have d0 : (e != 0) = true := by simpa using he
    have HL := Lib.hid hl
    clear hl he
    go_upto_region 6 with (go_at_call 17; (with_reducible refine (fold_no hn HL.out d0).mono ?_); (rintro en w7 ⟨rfl, b⟩; clear c0 c1 c2; replace BW := Below.step BW b; clear b))
    have b : Below w7.heap.size w7 (w7.alloc (.cells #[.slice none 0 0, .slice none 0 0, .slice none 0 0] 25)) := below_lit _ _
    replace BW := Below.step BW b
    clear b
    go_wp2_with fail
    go_ret
    exact ⟨rfl, BW⟩
  subst he
  obtain ⟨dd, rfl⟩ := some_of9 hl
  obtain ⟨L, lx⟩ := lv_x hl
  have LX := Lib.hid lx
  have HLN := Lib.hid hn.n.1
  clear hl lx
  go_upto_region 6 with (go_at_call 17; (with_reducible refine (fold_yes hn sn HBB.out LX.out.lev LX.out.ord LX.out.nd LX.out.mem LX.out.pos LX.out.pl).mono ?_); (rintro en w7 ⟨⟨Bn, dn, Bi, di, Bo, do', M, S, rfl, _, hfi, hf, sf⟩, b⟩; clear c0 c1 c2; replace BW := Below.step BW b; clear b))
  have HLF : Hid (Lf nn (M.map (dffS S)) S (O.map (outF S))) := Lib.hid (by rw [← HLN.out]; exact lf_of LX.out.pos hfi (idx_lt LX.out.mem) LX.out.pl)
  obtain ⟨w8, e_w8⟩ : ∃ w', w7.alloc (.cells #[.slice Bn nn dn, .slice Bi ni di, .slice Bo no do'] 25) = w' := ⟨_, rfl⟩
  have zf : Bx w8 w7.heap.size [.slice Bn nn dn, .slice Bi ni di, .slice Bo no do'] := e_w8 ▸ Bx.made_k w7 rfl #[.slice Bn nn dn, .slice Bi ni di, .slice Bo no do'] 25
  have b : Below w7.heap.size w7 w8 := e_w8 ▸ below_lit _ _
  rw [e_w8]
  replace hf := hf.on b
  replace BW := Below.step BW b
  obtain ⟨s7, hs7⟩ : ∃ s7, w7.heap.size = s7 := ⟨_, rfl⟩
  rw [hs7] at zf ⊢
  clear e_w8 b hs7 hfi z0 hn
  obtain ⟨M2, hM2⟩ : ∃ M2, M.map (dffS S) = M2 := ⟨_, rfl⟩
  obtain ⟨O2, hO2⟩ : ∃ O2, O.map (outF S) = O2 := ⟨_, rfl⟩
  have HO4 : Hid (∀ p ∈ O2, p.bits.length ≤ 4000) := Lib.hid fun p hp => by
    rw [← hO2] at hp
    obtain ⟨q, hq, rfl⟩ := List.mem_map.1 hp
    unfold outF
    rw [List.length_map]
    exact HB4.out q hq
  rw [hM2, hO2] at HLF hf
  clear hM2 hO2 HB4 LX HLN
  have hmm := @run_makeMap Try.prog
  go_upto_region 10 with fail
  clear hmm
  obtain ⟨wm, e_wm⟩ : ∃ w', w8.alloc (.map #[] 0) = w' := ⟨_, rfl⟩
  have bm : Below w8.heap.size w8 wm := e_wm ▸ below_lit _ _
  obtain ⟨mb, hmb⟩ : ∃ mb, w8.heap.size = mb := ⟨_, rfl⟩
  have hM : MapS wm mb 0 (.map []) := by rw [← hmb]; exact e_wm ▸ World.ownsMap_made w8 Try.prog 3 _
  have hmb1 : w8.heap.size ≤ mb := Nat.le_of_eq hmb
  rw [e_wm, hmb]
  clear e_wm hmb
  have hf8 := hf
  have zf8 := zf
  have BW8 := BW
  have bm8 := bm
  replace hf := hf.on bm
  replace zf := zf.on bm
  replace BW := Below.step BW bm
  have hmw : mb < wm.heap.size := hM.lt
  have hHM := Lib.hid hM
  have HLN2 : Hid (M2.length = nn) := Lib.hid hf.n.1
  clear hM bm
  have c2 := zf.2 2 _ rfl
  go_wp2_with fail
  clear c2
  go_loopw [7, 31] (fun tv iv wr => ∃ (vt : Value) (T : List Int) (j : Nat), vt = tv ∧ j ≤ no ∧ iv = .int .i64 j ∧ Hid (wr.ownsRow wm.heap.size 3 1 vt T.length (T.flatMap inC)) ∧ Hid (∀ t ∈ T, Gp S nn t) ∧ T.length ≤ j * 4000 ∧ Hid (MapS wr mb 0 (.map [])) ∧ Below wm.heap.size wm wr) (fun _ iv _ => no - (intOf iv).toNat)
  case atStart => exact ⟨_, [], 0, rfl, Nat.zero_le _, rfl, Lib.hid (World.ownsRow_nil wm _ _ _), Lib.hid (fun t ht => by cases ht), Nat.zero_le _, hHM, Below.refl _ _⟩
  case round =>
    clear hHM
    obtain ⟨vt, T, j, rfl, hj, rfl, HROW, HGD, hTj, HMP, BR⟩ := hrel
    by_cases hlt : j < no
    · obtain ⟨⟨nm, bs⟩, hp⟩ := look_ex hf.o.1 hlt
      obtain ⟨b0, off, A', m, c', eA, h2, k1, k2, h5, h6, hi⟩ := (hf.on BR).o.2 j ⟨nm, bs⟩ hp
      have HP := Lib.hid hp
      dsimp only at k1 k2 hi
      subst eA
      have hjn : (j : Int) < (no : Int) := by omega
      have hj0 : (0 : Int) ≤ (j : Int) := by omega
      have hm4 : m ≤ 4000 := by rw [← hi.1]; exact HO4.out _ (List.mem_of_getElem? hp)
      clear hp
      go_upto_region 13 with fail
      obtain ⟨w9, e_w9⟩ : ∃ w', wr.alloc (.cells #[.string nm, .slice A' m c'] 41) = w' := ⟨_, rfl⟩
      have z9 : Bx w9 wr.heap.size [.string nm, .slice A' m c'] := e_w9 ▸ Bx.made_k wr rfl #[.string nm, .slice A' m c'] 41
      have b9 : Below wr.heap.size wr w9 := e_w9 ▸ below_lit _ _
      rw [e_w9]
      have hRO9 := row_on HROW.out b9
      have hMP9 := HMP.out.below b9
      have hi9 := hi.on b9
      have hsr := BR.size
      have BR9 := BR.trans (b9.mono hsr)
      clear e_w9 k1 k2 h2 b9 HROW HMP hi
      have c1 := z9.2 1 _ rfl
      have hbase9 : wm.heap.size ≤ w9.heap.size := BR9.size
      have hTl : T.length ≤ 264000 := by omega
      go_wp2_with (at_builtin; refine wpList_app (A := A') (m := m) (c := c') rfl _ _ 39 rfl elm_int (by omega) (by omega) wm.heap.size _ _ _ rfl hRO9 (bs.flatMap inC) rfl (fun e => ⟨by have := h5.2 e; omega, h5.2 e⟩) (by rw [flat_len inC 1 inC_len, hi9.1]) hi9.cells (one_in _) (by omega) hbase9 ?_; intro v2 w5 hr5 hg5)
      have hM5 := Lib.hid (World.ownsMap.kept hMP9 hg5 (map_ne hRO9 hMP9))
      have BR5 := BR9.grown hg5 hbase9 (fun k hk => (hRO9.lt k hk).1)
      have e1 : T.length + m = (T ++ bs).length := by rw [List.length_append, hi9.1]
      rw [← List.flatMap_append, e1] at hr5
      have hr5' := Lib.hid hr5
      have hgd5 : Hid (∀ t ∈ T ++ bs, Gp S nn t) := Lib.hid fun t ht => by
        rcases List.mem_append.1 ht with ht | ht
        · exact HGD.out t ht
        · exact HLF.out.outs _ (List.mem_of_getElem? HP.out) t ht
      have hTb : (T ++ bs).length ≤ (j + 1) * 4000 := by rw [List.length_append, hi9.1]; omega
      clear hr5 e1 hRO9 hMP9
      go_roundw
      case rel => exact ⟨v2, T ++ bs, j + 1, rfl, by omega, by go_num, hr5', hgd5, hTb, hM5, BR5⟩
      case measure => simp [intOf]; omega
    · obtain rfl : j = no := by omega
      have hjn : ¬ (j : Int) < (j : Int) := by omega
      obtain ⟨w6, rfl⟩ : ∃ x, x = wr := ⟨_, rfl⟩
      have B86 := bm8.trans (BR.mono bm8.size)
      have hT0 : T.length ≤ 264000 + 3 * ([] : List Nat).length := by simp; omega
      have hwm8 : w8.heap.size ≤ wm.heap.size := bm8.size
      have hwz : wm.heap.size ≤ w6.heap.size := BR.size
      go_wp2_with fail
      clear BR hTj hf zf BW bm8
      go_loopw [7] (fun tv wr => ∃ (vt : Value) (T : List Int) (V : List Nat) (n : Nat) (D : DataW Unit), vt = tv ∧ Hid (wr.ownsRow wm.heap.size 3 1 vt T.length (T.flatMap inC)) ∧ Hid (∀ t ∈ T, Gp S nn t) ∧ T.length ≤ 264000 + 3 * V.length ∧ Hid (MapS wr mb n D) ∧ n = V.length ∧ Hid (Se V D) ∧ Hid (∀ v ∈ V, v < nn) ∧ Below w8.heap.size w8 wr ∧ wm.heap.size ≤ wr.heap.size) (fun tv wr => lenW tv + 4 * (nn - mapSize wr mb))
      case atStart => exact ⟨_, T, [], 0, _, rfl, HROW, HGD, hT0, HMP, rfl, Lib.hid Se.start, Lib.hid (fun v hv => by cases hv), B86, hwz⟩
      case round =>
        clear HROW HGD HMP B86 hT0
        obtain ⟨vt, T, V, n, D, rfl, HROW, HGD, hTb, HMP, hnV, HSE, HVN, BR, hwr⟩ := hrel
        have hVn : V.length ≤ nn := nodup_le nn V HSE.out.nd HVN.out
        rcases snocI T with rfl | ⟨V0, t, rfl⟩
        · obtain ⟨A6, c6, rfl, sw6, _⟩ := row_at HROW.out
          have e0 : decide ((0 : Int) < (([] : List Int).length : Int)) = false := by simp
          go_wp2_with fail
          go_ret
          exact ⟨rfl, BW8.trans (BR.mono BW8.size)⟩
        · obtain ⟨b6, c6, rfl, hc6, cq, hpop⟩ := row_last HROW.out
          obtain ⟨q, rfl, hq, hsq⟩ := HGD.out t (by simp)
          have HSQ := Lib.hid hsq
          have HPOP := Lib.hid hpop
          have HGD0 : Hid (∀ t ∈ V0, Gp S nn t) := Lib.hid fun t ht => HGD.out t (List.mem_append_left _ ht)
          have hlV : V0.length + 1 ≤ 264000 + 3 * V.length := by rw [List.length_append, List.length_singleton] at hTb; exact hTb
          have q3 : IntKind.i64.wrap (((V0.length : Nat) : Int) + 1 - 1) = (V0.length : Int) := by rw [IntKind.wrap_i64]; omega
          have j2 : (0 : Int) ≤ (V0.length : Int) := by omega
          have j3 : (V0.length : Int) < (V0.length : Int) + 1 := by omega
          have j4 : (V0.length : Int) ≤ (c6 : Int) := by omega
          have hq0 : (0 : Int) ≤ (q : Int) := by omega
          have hqn : (q : Int) < (nn : Int) := by omega
          have e1 : decide ((q : Int) < 0) = false := by simp
          have e2 : decide ((nn : Int) ≤ (q : Int)) = false := by simp; omega
          have e3 : ¬ nn ≤ q := by omega
          have zfr := zf8.on BR
          have cz := zfr.2 0 _ rfl
          have hkey : keyOf Try.prog 3 (.int .i64 (q : Int)) = some (kJ q) := Maps.keyOf_int_mk Try.underlying3 (wf_j64 hq0 (by omega))
          have hat := HSE.out.at_ q
          have hM := HMP.out
          clear hpop hsq hTb HGD
          by_cases hqV : q ∈ V
          · rw [decide_eq_true hqV] at hat
            have HAT := Lib.hid hat
            clear hat
            go_wp2_with (at_lookup; refine wpList_lookup_bool _ rfl _ _ 38 rfl 3 4 (Maps.int_keyed Try.underlying3) Try.underlying38 Try.underlying4 (by kernel_rfl) mb n D rfl hM _ (kJ q) rfl hkey true HAT.out ?_; dsimp only [Act.put]; simp only [List.setIfInBounds_toArray, List.set_cons_succ, List.set_cons_zero])
            go_roundw
            case rel => exact ⟨_, V0, V, n, D, rfl, HPOP, HGD0, by omega, HMP, hnV, HSE, HVN, BR, hwr⟩
            case measure => simp [lenW]
          · rw [decide_eq_false hqV] at hat
            have HAT := Lib.hid hat
            have HQV := Lib.hid hqV
            clear hat hqV
            go_upto_region 21 with (at_lookup; refine wpList_lookup_bool _ rfl _ _ 38 rfl 3 4 (Maps.int_keyed Try.underlying3) Try.underlying38 Try.underlying4 (by kernel_rfl) mb n D rfl hM _ (kJ q) rfl hkey false HAT.out ?_; dsimp only [Act.put]; simp only [List.setIfInBounds_toArray, List.set_cons_succ, List.set_cons_zero])
            have hms : mapSize wr mb = V.length := by rw [hM.size_, HSE.out.size]
            have HMS := Lib.hid hms
            have hnl : n < maxLen := by unfold maxLen; omega
            have hval : plainElem (H := Unit) Try.prog 4 (.bool true) = some (.lit (.bool true), []) := plainElem_bool Try.underlying4 true
            clear cq hms
            go_upto_region 22 with (at_mapUpdate; refine wpList_mapUpdate_own _ rfl _ _ _ 38 rfl 3 4 (Maps.int_keyed Try.underlying3) Try.underlying38 _ mb n D rfl hM hnl _ _ (kJ q) rfl rfl hkey (.lit (.bool true)) [] hval ?_; intro w5 hM5 hG5)
            have hne := map_ne HPOP.out hM
            have HPOP5 := Lib.hid (HPOP.out.kept hG5 (.inr fun e => hne e.symm))
            have HSE5 : Hid (Se (q :: V) (D.put (kJ q) (.lit (.bool true)))) := Lib.hid (HSE.out.put hM.isMap (hM.tidy (Maps.int_keyed Try.underlying3)) HQV.out)
            have HVN5 : Hid (∀ v ∈ q :: V, v < nn) := Lib.hid fun v hv => by
              rcases List.mem_cons.1 hv with e | h
              · rw [e]; exact hq
              · exact HVN.out v h
            have hV5 : V.length + 1 ≤ nn := by have := nodup_le nn (q :: V) HSE5.out.nd HVN5.out; simpa using this
            have BR5 := BR.grown hG5 BR.size (fun k hk => by injection hk with hk; omega)
            have hwr5 : wm.heap.size ≤ w5.heap.size := Nat.le_trans hwr hG5.size
            have HM5 : Hid (MapS w5 mb (n + 1) (D.put (kJ q) (.lit (.bool true)))) := Lib.hid hM5
            obtain ⟨bn, off, x1, x2, x3, x4, eA, HX, hA⟩ := (hf8.n.on BR5).nat hq
            have EA := Lib.hid eA
            have cz5 := (zf8.on BR5).2 0 _ rfl
            rw [eA] at cz5
            have a0 := hA.c1; have a1 := hA.c2; have a2 := hA.c3; have a3 := hA.c4
            clear hM BR cz zfr HMP HSE hG5 hne hM5 hkey hval HAT HROW eA hwr
            go_upto_region 23 with fail
            obtain ⟨w7, e_w7⟩ : ∃ w', w5.alloc (.cells #[.int .i64 x1, .int .i64 x2, .int .i64 x3, .int .i64 x4] 43) = w' := ⟨_, rfl⟩
            have z11 : Bx w7 w5.heap.size [.int .i64 x1, .int .i64 x2, .int .i64 x3, .int .i64 x4] := e_w7 ▸ Bx.made_k w5 rfl #[.int .i64 x1, .int .i64 x2, .int .i64 x3, .int .i64 x4] 43
            have b7 : Below w5.heap.size w5 w7 := e_w7 ▸ below_lit _ _
            have hb6 : b6 < w5.heap.size := (HPOP5.out.lt b6 rfl).2
            rw [e_w7]
            have HPOP7 := Lib.hid (row_on HPOP5.out b7)
            have HM7 := Lib.hid (HM5.out.below b7)
            have BR7 := BR5.trans (b7.mono BR5.size)
            have hwr7 : wm.heap.size ≤ w7.heap.size := Nat.le_trans hwr5 b7.size
            obtain ⟨s11, hs11⟩ : ∃ s11, w5.heap.size = s11 := ⟨_, rfl⟩
            rw [hs11] at z11 hb6 ⊢
            clear e_w7 hs11 b7 HPOP5 HM5 BR5 hwr5 cz5 a0 a1 a2 a3 hA
            have c0 := z11.2 0 _ rfl; have c1 := z11.2 1 _ rfl; have c2 := z11.2 2 _ rfl; have c3 := z11.2 3 _ rfl
            go_wp2_with fail
            refine (rusesW_as x1 x2 x3 x4 _).mono ?_
            rintro en w9 ⟨Au, mu, cu, rfl, hu, hm3, swu, b9⟩
            replace z11 := z11.on b9
            have HPOP9 := row_on HPOP7.out b9
            have hM9 := HM7.out.below b9
            have BR9 := BR7.trans (b9.mono BR7.size)
            have hwr9 : wm.heap.size ≤ w9.heap.size := Nat.le_trans hwr7 b9.size
            have hs6 : s11 ≠ b6 := by omega
            clear c0 c1 c2 c3 HPOP7 HM7 BR7 hwr7 b9
            go_upto_region 24 with (at_builtin; refine wpList_app (A := Au) (m := mu) (c := cu) rfl _ _ 39 rfl elm_int (by omega) (by omega) wm.heap.size _ _ _ rfl HPOP9 ((usesS ⟨x1, x2, x3, x4⟩).flatMap inC) rfl swu.none_ (by rw [flat_len inC 1 inC_len, hu.1]) hu.cells (one_in _) (by omega) hwr9 ?_; intro v2 w10 hr10 hg10)
            have HM10 : Hid (MapS w10 mb (n + 1) (D.put (kJ q) (.lit (.bool true)))) := Lib.hid (World.ownsMap.kept hM9 hg10 (map_ne HPOP9 hM9))
            have BR10 := BR9.grown hg10 BR9.size (fun k hk => Nat.le_trans hwm8 (HPOP9.lt k hk).1)
            have z12 := z11.far hg10 hs6
            have e1 : V0.length + mu = (V0 ++ usesS ⟨x1, x2, x3, x4⟩).length := by rw [List.length_append, hu.1]
            have hlen : (V0 ++ usesS ⟨x1, x2, x3, x4⟩).length ≤ V0.length + 3 := by omega
            rw [← List.flatMap_append, e1] at hr10
            have HR10 := Lib.hid hr10
            have HGU : Hid (∀ y ∈ usesS ⟨x1, x2, x3, x4⟩, Gp S nn y) := Lib.hid (HLF.out.uses q hq HSQ.out _ HX.out)
            have HGD10 : Hid (∀ t ∈ V0 ++ usesS ⟨x1, x2, x3, x4⟩, Gp S nn t) := Lib.hid fun t ht => by
              rcases List.mem_append.1 ht with ht | ht
              · exact HGD0.out t ht
              · exact HGU.out t ht
            have HLEFT : Hid (2 ≤ x1 ∧ x1 ≤ 5 → (∀ y ∈ usesS ⟨x1, x2, x3, x4⟩, (nA M2 y).k ≠ 0) ∧ (x1 = 2 → (nA M2 x2).k ≠ 2) ∧ (x1 ≠ 2 → x2 ≠ x3)) := Lib.hid (HLF.out.left q hq HSQ.out _ HX.out)
            have hwr10 : wm.heap.size ≤ w10.heap.size := Nat.le_trans hwr9 hg10.size
            have hTb : (V0 ++ usesS ⟨x1, x2, x3, x4⟩).length ≤ 264000 + 3 * (q :: V).length := by simp only [List.length_cons]; omega
            have hn10 : n + 1 = (q :: V).length := by simp [hnV]
            obtain ⟨U, hU⟩ : ∃ U, usesS ⟨x1, x2, x3, x4⟩ = U := ⟨_, rfl⟩
            have HU := Lib.hid hU
            rw [hU] at HR10 HGD10 HGU HLEFT hlen hTb
            clear hr10 e1 HPOP9 hM9 hg10 BR9 z11 hwr9 hu swu hU HGD0 HPOP
            have c0 := z12.2 0 _ rfl
            have fin : ∀ wl, Below w10.heap.size w10 wl → (∃ (vt : Value) (T : List Int) (V : List Nat) (n : Nat) (D : DataW Unit), vt = v2 ∧ Hid (wl.ownsRow wm.heap.size 3 1 vt T.length (T.flatMap inC)) ∧ Hid (∀ t ∈ T, Gp S nn t) ∧ T.length ≤ 264000 + 3 * V.length ∧ Hid (MapS wl mb n D) ∧ n = V.length ∧ Hid (Se V D) ∧ Hid (∀ v ∈ V, v < nn) ∧ Below w8.heap.size w8 wl ∧ wm.heap.size ≤ wl.heap.size) ∧ lenW v2 + 4 * (nn - mapSize wl mb) < V0.length + 1 + 4 * (nn - mapSize wr mb) := fun wl bl => by
              have hm := HM10.out.below bl
              refine ⟨⟨v2, V0 ++ U, q :: V, n + 1, _, rfl, Lib.hid (row_on HR10.out bl), HGD10, hTb, Lib.hid hm, hn10, HSE5, HVN5, BR10.trans (bl.mono BR10.size), Nat.le_trans hwr10 bl.size⟩, ?_⟩
              rw [row_len HR10.out, hm.size_, HSE5.out.size, HMS.out]
              simp only [List.length_cons]
              omega
            have FIN := Lib.hid fin
            clear fin
            by_cases h25 : 2 ≤ x1 ∧ x1 ≤ 5
            case neg =>
              have hx : x1 < 2 ∨ (¬ x1 < 2 ∧ 5 < x1) := by omega
              rcases hx with hx | ⟨hx, hx5⟩
              · have e4 : decide (x1 < 2) = true := by simpa using hx
                have F := FIN.out w10 (Below.refl _ _)
                have HF1 := Lib.hid F.1
                have HF2 := Lib.hid F.2
                clear F h25
                go_wp2_with fail
                go_roundw
                case rel => exact HF1.out
                case measure => exact HF2.out
              · have e4 : decide (x1 < 2) = false := by simp; omega
                have e5 : decide (5 < x1) = true := by simpa using hx5
                have F := FIN.out w10 (Below.refl _ _)
                have HF1 := Lib.hid F.1
                have HF2 := Lib.hid F.2
                clear F h25
                go_wp2_with fail
                go_roundw
                case rel => exact HF1.out
                case measure => exact HF2.out
            case pos =>
              have e4 : decide (x1 < 2) = false := by simp; omega
              have e5 : decide (5 < x1) = false := by simp; omega
              obtain ⟨l1, l2, l3⟩ := HLEFT.out h25
              have HL1 := Lib.hid l1
              have HL2 := Lib.hid l2
              have HL3 := Lib.hid l3
              have c1 := z12.2 1 _ rfl; have c2 := z12.2 2 _ rfl; have c3 := z12.2 3 _ rfl
              clear l1 l2 l3 HLEFT
              go_wp2_with fail
              refine (rusesW_as x1 x2 x3 x4 _).mono ?_
              rintro en w11 ⟨A3, m3, c3', rfl, hu3, hm33, _, b11⟩
              rw [HU.out] at hu3
              have HZ12 := Lib.hid (z12.on b11)
              have HB11 := Lib.hid b11
              clear c0 c1 c2 c3 z12 b11 e4 e5
              go_wp2_with fail
              go_loopw [89] (fun iv wr => ∃ k : Nat, k ≤ m3 ∧ iv = .int .i64 k ∧ Hid (Below w11.heap.size w11 wr)) (fun iv _ => m3 - (intOf iv).toNat)
              case atStart => exact ⟨0, Nat.zero_le _, rfl, Lib.hid (Below.refl _ _)⟩
              case round =>
                obtain ⟨k, hk, rfl, HB⟩ := hrel
                have HBW := Lib.hid (HB11.out.trans (HB.out.mono HB11.out.size))
                have B8w := BR10.trans (HBW.out.mono BR10.size)
                have cz := (zf8.on B8w).2 0 _ rfl
                rw [EA.out] at cz
                by_cases hkm : k < m3
                · obtain ⟨b3, o3, y, eY, HY, cy⟩ := (hu3.on HB.out).at hkm
                  subst eY
                  obtain ⟨m, rfl, hm, _⟩ := HGU.out y (List.mem_of_getElem? HY.out)
                  obtain ⟨bn', off', y1, y2, y3, y4, eB, HMN, hB⟩ := (hf8.n.on B8w).nat hm
                  rw [EA.out] at eB
                  injection eB with eB
                  injection eB with eB1 eB2
                  subst eB1 eB2
                  have hy1 : y1 ≠ 0 := by
                    have := HL1.out _ (List.mem_of_getElem? HY.out)
                    unfold nA at this
                    rw [Int.toNat_natCast, List.getD_eq_getElem?_getD, HMN.out] at this
                    exact this
                  have a0 := hB.c1
                  have k0 : (0 : Int) ≤ (k : Int) := by omega
                  have k1 : (k : Int) < (m3 : Int) := by omega
                  have m0 : (0 : Int) ≤ (m : Int) := by omega
                  have m1 : (m : Int) < (nn : Int) := by omega
                  have f1 : decide ((m : Int) < 0) = false := by simp
                  have f2 : decide ((nn : Int) ≤ (m : Int)) = false := by simp; omega
                  have f4 : ¬ nn ≤ m := by omega
                  have f3 : (y1 == 0) = false := beq_ff hy1
                  clear hB hy1
                  go_wp2_with fail
                  go_roundw
                  case rel => exact ⟨k + 1, by omega, by go_num, HB⟩
                  case measure => simp [intOf]; omega
                · obtain rfl : k = m3 := by omega
                  have k1 : ¬ (k : Int) < (k : Int) := by omega
                  have z13 := HZ12.out.on HB.out
                  have c0 := z13.2 0 _ rfl; have c1 := z13.2 1 _ rfl; have c2 := z13.2 2 _ rfl; have c3 := z13.2 3 _ rfl
                  have F := FIN.out _ HBW.out
                  have HF1 := Lib.hid F.1
                  have HF2 := Lib.hid F.2
                  clear F z13
                  by_cases h2 : x1 = 2
                  · have hx2 : x2 ∈ usesS ⟨x1, x2, x3, x4⟩ := by rw [uses_2 (x := ⟨x1, x2, x3, x4⟩) h2]; exact List.mem_singleton.2 rfl
                    rw [HU.out] at hx2
                    obtain ⟨m, rfl, hm, _⟩ := HGU.out x2 hx2
                    obtain ⟨bn', off', y1, y2, y3, y4, eB, HMN, hB⟩ := (hf8.n.on B8w).nat hm
                    rw [EA.out] at eB
                    injection eB with eB
                    injection eB with eB1 eB2
                    subst eB1 eB2
                    have hy1 : y1 ≠ 2 := by
                      have := HL2.out h2
                      unfold nA at this
                      rw [Int.toNat_natCast, List.getD_eq_getElem?_getD, HMN.out] at this
                      exact this
                    have a0 := hB.c1
                    have m0 : (0 : Int) ≤ (m : Int) := by omega
                    have m1 : (m : Int) < (nn : Int) := by omega
                    have f1 : (x1 == 2) = true := beq_tt h2
                    have f2 : (x1 != 2) = false := by simp [h2]
                    have f3 : (y1 == 2) = false := beq_ff hy1
                    clear hB hy1 hx2 h2 h25
                    go_wp2_with fail
                    go_roundw
                    case rel => exact HF1.out
                    case measure => exact HF2.out
                  · have f1 : (x1 == 2) = false := beq_ff h2
                    have f2 : (x1 != 2) = true := by simp [h2]
                    have f3 : (x2 == x3) = false := beq_ff (HL3.out h2)
                    clear h2 h25
                    go_wp2_with fail
                    go_roundw
                    case rel => exact HF1.out
                    case measure => exact HF2.out
end Go.Proofs.Ytcehklnonhalhaa
