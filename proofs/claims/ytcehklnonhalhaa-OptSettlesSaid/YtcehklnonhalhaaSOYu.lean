/-
  What the proofs of OptSweeps and OptSettles need: Yu.
-/
import Derived.Test.YtcehklnonhalhaaSOYo
import Derived.Test.YtcehklnonhalhaaSOYw
namespace Go.Proofs.Ytcehklnonhalhaa
open Go.RowKit
set_option linter.unusedVariables false
set_option maxRecDepth 4000

/-- the first j changed by f. -/
def mixF {α : Type} (f : α → α) (j : Nat) (L : List α) : List α := (L.take j).map f ++ L.drop j
theorem mix_len {α : Type} (f : α → α) (j : Nat) (L : List α) : (mixF f j L).length = L.length := by unfold mixF; simp; omega
theorem mix_0 {α : Type} (f : α → α) (L : List α) : mixF f 0 L = L := by unfold mixF; simp
theorem mix_all {α : Type} (f : α → α) (L : List α) : mixF f L.length L = L.map f := by unfold mixF; simp
theorem mix_at {α : Type} (f : α → α) {j : Nat} {L : List α} (h : j < L.length) : (mixF f j L)[j]? = L[j]? := by
  unfold mixF
  rw [List.getElem?_append_right (by simp; omega)]
  simp
  congr 1
  omega
theorem mix_next {α : Type} (f : α → α) {j : Nat} {L : List α} {x : α} (h : L[j]? = some x) : mixF f (j + 1) L = (mixF f j L).set j (f x) := by
  obtain ⟨hj, hx⟩ := List.getElem?_eq_some_iff.1 h
  unfold mixF
  rw [List.set_append_right _ _ (by simp; omega), List.take_add_one, h]
  have : j - ((L.take j).map f).length = 0 := by simp; omega
  rw [this, List.drop_eq_getElem_cons hj, List.set_cons_zero, List.map_append]
  simp
theorem GD.put {w : World} {base n : Nat} {R : List Rp} {L : List Pt} (h : GD w base n R L) {j g i : Nat} {r : Rp} {p : Pt} (hj : j < n) (hr : R[j]? = some r) (hp : L[j]? = some p) (hA : r.A = some ⟨g, 0, none⟩) (x : Int) : GD (w.setCell ⟨g, i, none⟩ (.int .i64 x)) base n R (L.set j ⟨p.name, p.bits.set i x⟩) := fun k r' p' hk hr' hp' => by
  obtain ⟨j1, j2⟩ := h j r p hj hr hp
  have own : (Value.slice r.A r.m r.c).ownBlock = some g := by rw [hA]; rfl
  by_cases e : j = k
  · subst e
    rw [hr] at hr'
    injection hr' with hr'
    subst hr'
    rw [List.getElem?_set_self (List.getElem?_eq_some_iff.1 hp).1] at hp'
    injection hp' with hp'
    subst hp'
    refine ⟨?_, j2⟩
    rw [hA] at j1 ⊢
    have := (j1.stored i (.int .i64 x)).1
    rw [flat_putI] at this
    exact this
  · rw [List.getElem?_set_ne e] at hp'
    obtain ⟨k1, k2⟩ := h k r' p' hk hr' hp'
    refine ⟨k1.kept (grown_set _ _ _) (.inr fun q => ?_), k2⟩
    rcases Nat.lt_or_gt_of_ne e with e | e
    · exact j2 k r' e hk hr' g own q
    · exact k2 j r e hj hr g q own
/-- a store to a block of another type. -/
theorem GD.other {w : World} {base n g : Nat} {R : List Rp} {L : List Pt} {cur : Array Value} {T : TypeId} {f : Nat × Nat} (h : GD w base n R L) (hg : w.heap[g]? = some (.cells cur T f)) (hT : 3 ≠ T) (o : Nat) (u : Value) : GD (w.setCell ⟨g, o, none⟩ u) base n R L := fun k r p hk hr hp => by
  obtain ⟨h1, h2⟩ := h k r p hk hr hp
  refine ⟨h1.kept (grown_set _ _ _) ?_, h2⟩
  rcases h1.2 with ⟨e, _⟩ | ⟨g', cap, cur', e, _, hg', _⟩
  · left; rw [e]; rfl
  · right
    rw [e]
    intro q
    unfold Value.ownBlock at q
    injection q with q
    exact type_ne hg' hg hT q
/-- a row of another type. -/
theorem row_other {w : World} {base size n g : Nat} {t T : TypeId} {v : Value} {xs : List Value} {cur : Array Value} {f : Nat × Nat} (h : w.ownsRow base t size v n xs) (hg : w.heap[g]? = some (.cells cur T f)) (hT : t ≠ T) (o : Nat) (u : Value) : (w.setCell ⟨g, o, none⟩ u).ownsRow base t size v n xs := by
  refine h.kept (grown_set _ _ _) ?_
  rcases h.2 with ⟨e, _⟩ | ⟨g', cap, cur', e, _, hg', _⟩
  · left; rw [e]; rfl
  · right
    rw [e]
    intro q
    unfold Value.ownBlock at q
    injection q with q
    exact type_ne hg' hg hT q
/-- ports whose bits lie so. -/
theorem GD.psH {w : World} {base n c : Nat} {A : Option Addr} {R : List Rp} {L : List Pt} (h : GD w base n R L) (hrow : w.ownsRow base 41 2 (.slice A n c) n (R.flatMap ptC)) (hRl : R.length = n) (hLl : L.length = n) (hnm : ∀ (k : Nat) (r : Rp) (p : Pt), R[k]? = some r → L[k]? = some p → r.name = p.name) : PsH base w A n L := ⟨hLl, fun k p hp => by
  have hk : k < n := by rw [← hLl]; exact (List.getElem?_eq_some_iff.1 hp).1
  obtain ⟨r, hr⟩ := look_ex hRl hk
  obtain ⟨A0, c0, q0, _, hA0, hc0⟩ := row_at hrow
  injection q0 with qa qb qc
  subst qa qc
  obtain ⟨g, eA, hg, k1⟩ := hc0 (k * 2 + 0) (.string r.name) (by rw [flat_at ptC 2 ptC_len R k 0 (by omega), hr]; rfl)
  obtain ⟨g', eA', _, k2⟩ := hc0 (k * 2 + 1) (.slice r.A r.m r.c) (by rw [flat_at ptC 2 ptC_len R k 1 (by omega), hr]; rfl)
  subst eA
  injection eA' with eA'
  injection eA' with eA'
  subst eA'
  obtain ⟨A2, c2, e2, sw, hA2, hi⟩ := row_is (h k r p hk hr hp).1
  injection e2 with ea _ ec
  subst ea ec
  rw [hnm k r p hr hp] at k1
  exact ⟨g, 0, r.A, r.m, r.c, rfl, (hA0 g 0 rfl).1, hg, by rw [Nat.zero_add]; exact k1, by rw [Nat.zero_add]; exact k2, ⟨sw.1, sw.2.2⟩, sw.2.1, hi.isB fun b off e _ => (hA2 b off e).1⟩⟩
/-- a net that lies in blocks no lower than s. -/
structure NtH (s : Nat) (w : World) (An : Option Addr) (nn cn : Nat) (Ai : Option Addr) (ni ci : Nat) (Ao : Option Addr) (no co : Nat) (N : List Nd) (I O : List Pt) : Prop where
  nt : Nt w An nn cn Ai ni ci Ao no co N I O
  an : AdOk (s ≤ ·) An
  ai : PsH s w Ai ni I
  ao : PsH s w Ao no O
set_option maxHeartbeats 8000000 in
theorem fold_yesH {An Ai Ao : Option Addr} {nn cn ni ci no co : Nat} {N : List Nd} {I O : List Pt} {w : World} (h : Nt w An nn cn Ai ni ci Ao no co N I O) (sn : Sw An nn cn) (hb : ∀ p ∈ I ++ O, p.bits.length ≤ 100000) {dd : List Nat} (hl : levelS N I O = (some dd, 0)) {L : List Nat} (hO : ordO (some dd) = nI L) (hLn : L.Nodup) (hLm : ∀ i, i ∈ L ↔ i < N.length) (hp : Pos N (fun q => L.idxOf q)) (hpl : ∀ p ∈ O, ∀ q ∈ p.bits, placeS (N.length : Int) q = true) : Calls Try.prog 17 #[.agg #[.slice An nn cn, .slice Ai ni ci, .slice Ao no co]] w fun en w' => (∃ Bn dn Bi di Bo do' M S, en = .returned (.tuple #[.agg #[.slice Bn nn dn, .slice Bi ni di, .slice Bo no do'], .int .i64 (chN S (M.map (dffS S)) N nn : Nat), .int .i64 0]) ∧ runF N L = (M, S) ∧ FI N (fun q => L.idxOf q) L.length M S ∧ NtH w.heap.size w' Bn nn dn Bi ni di Bo no do' (M.map (dffS S)) I (O.map (outF S)) ∧ Sw Bn nn dn) ∧ Below w.heap.size w w' := by
  have C : ∀ w', Nt w' An nn cn Ai ni ci Ao no co N I O → Calls Try.prog 39 #[.agg #[.slice An nn cn, .slice Ai ni ci, .slice Ao no co]] w' fun en w2 => FoX N L w'.heap.size en w2 ∧ Below w'.heap.size w' w2 := fun w' h' => folded_yes h' sn hb hl hO hLn hLm hp
  have HB := Lib.hid hb
  have HLN := Lib.hid h.n.1
  have HPL := Lib.hid hpl
  clear hb hl hO hLn hLm hp hpl
  go_enter Try.func17, Try.ntmps17
  go_upto_region 1 with fail
  obtain ⟨w1, e_w1⟩ : ∃ w', w.alloc (.cells #[.slice An nn cn, .slice Ai ni ci, .slice Ao no co] 25) = w' := ⟨_, rfl⟩
  have z0 : Bx w1 w.heap.size [.slice An nn cn, .slice Ai ni ci, .slice Ao no co] := e_w1 ▸ Bx.made_k w rfl #[.slice An nn cn, .slice Ai ni ci, .slice Ao no co] 25
  have b1 : Below w.heap.size w w1 := e_w1 ▸ below_lit _ _
  have hs1 : w1.heap.size = w.heap.size + 1 := e_w1 ▸ size_lit w _ rfl
  rw [e_w1]
  clear e_w1
  obtain ⟨s1, hs0⟩ : ∃ s1, w.heap.size + 1 = s1 := ⟨_, rfl⟩
  rw [hs0] at hs1 ⊢
  obtain ⟨w2, e_w2⟩ : ∃ w', w1.alloc (.cells #[.slice none 0 0, .slice none 0 0, .slice none 0 0] 25) = w' := ⟨_, rfl⟩
  have ZR : Own w2 s1 25 [.slice none 0 0, .slice none 0 0, .slice none 0 0] := by rw [← hs1]; exact e_w2 ▸ Own.made w1 25 [.slice none 0 0, .slice none 0 0, .slice none 0 0]
  have b2 : Below w1.heap.size w1 w2 := e_w2 ▸ below_lit _ _
  rw [e_w2]
  clear e_w2 hs1
  replace z0 := z0.on b2
  have BW := Below.step b1 b2
  replace h := h.on BW
  clear b1 b2
  have hws : w.heap.size < s1 := by omega
  have hs1w2 : s1 < w2.heap.size := ZR.lt
  clear hs0
  have c0 := z0.2 0 _ rfl; have c1 := z0.2 1 _ rfl; have c2 := z0.2 2 _ rfl
  go_upto_region 4 with (go_at_call 39; (with_reducible refine (C _ h).mono ?_); (rintro en w3 ⟨⟨p, vn, vs, M, S, rfl, hrun, FJ, FD⟩, b⟩; have hw23 := b.size; replace BW := Below.step BW b; replace ZR := ZR.below b ZR.lt; replace h := h.on b; replace z0 := z0.on b; clear b c0 c1 c2))
  have HRUN := Lib.hid hrun
  have HFJ := Lib.hid FJ
  have hml : (M.map (dffS S)).length = nn := by rw [List.length_map, FJ.lm, HLN.out]
  have HML := Lib.hid hml
  obtain ⟨Av, cv, eV, svn, kv, nv⟩ := row_ns FD.rn
  obtain ⟨As, cs, eS, sss, ks, ns⟩ := row_is FD.rs
  rw [hml] at eV eS svn sss
  subst eV eS
  have KV := Lib.hid kv
  have KS := Lib.hid ks
  clear hrun FJ hml nv ns kv ks
  have c0 := z0.2 0 _ rfl; have c1 := z0.2 1 _ rfl; have c2 := z0.2 2 _ rfl
  go_upto_region 5 with (go_at_call 40; (with_reducible refine (cloneD_as h sn HB.out).mono ?_); (rintro en wc ⟨Bn, dn, Bi, di, Bo, do', s, s2, Ro, rfl, hrowN, hlt, swn, swi, swo, hs, hw, hs2, hpi, hrowO, hRl, hRn, hGD, b⟩; clear c0 c1 c2))
  have hww := BW.size
  have hw3s : w3.heap.size ≤ s := hw
  replace hw : w3.heap.size ≤ s2 := Nat.le_trans hw hs
  replace BW := Below.step BW b
  -- what the loops keep
  obtain ⟨s7, hs7⟩ : ∃ s7, wc.heap.size = s7 := ⟨_, rfl⟩
  obtain ⟨w7, e_w7⟩ : ∃ w', wc.alloc (.cells #[.slice Bn nn dn, .slice Bi ni di, .slice Bo no do'] 25) = w' := ⟨_, rfl⟩
  have ZM : Own w7 wc.heap.size 25 [.slice Bn nn dn, .slice Bi ni di, .slice Bo no do'] := e_w7 ▸ Own.made wc 25 [.slice Bn nn dn, .slice Bi ni di, .slice Bo no do']
  have b7 : Below wc.heap.size wc w7 := e_w7 ▸ below_lit _ _
  rw [e_w7]
  clear e_w7
  have hrowO7 := row_on hrowO b7
  have hGD7 := hGD.on b7
  have bc7 : Below s2 wc w7 := b7.mono hs2
  have B3 : Below w3.heap.size w3 w7 := Below.step b b7
  rw [hs7] at ZM hs2 ⊢
  clear hrowO hGD b b7 hs7
  have FD7 := FD.on B3
  have k0 : _ = some (Value.slice Av nn cv) := FD7.ow.cell 0
  have c0 := ZM.cell 0
  have f0 := ZM.free 0
  go_upto_region 6 with fail
  have hw7 : w3.heap.size ≤ s7 := by omega
  obtain ⟨w8, e_w8⟩ : ∃ w', w7.setCell ⟨s7, 0, none⟩ (.slice Av nn cv) = w' := ⟨_, rfl⟩
  have ZM8 : Own w8 s7 25 [.slice Av nn cv, .slice Bi ni di, .slice Bo no do'] := e_w8 ▸ ZM.put 0 (.slice Av nn cv)
  have bc8 : Below s2 wc w8 := e_w8 ▸ bc7.setCell (p := ⟨s7, 0, none⟩) hs2 (.slice Av nn cv)
  have B38 : Below w3.heap.size w3 w8 := e_w8 ▸ B3.setCell (p := ⟨s7, 0, none⟩) hw7 (.slice Av nn cv)
  have hrowO8 := Lib.hid (e_w8 ▸ row_other hrowO7 ZM (by decide) 0 (.slice Av nn cv) : w8.ownsRow s2 41 2 (.slice Bo no do') no (Ro.flatMap ptC))
  have hGD8 := Lib.hid (e_w8 ▸ hGD7.other ZM (by decide) 0 (.slice Av nn cv) : GD w8 s2 no Ro O)
  rw [e_w8]
  have ZMH := Lib.hid ZM8
  have hsz8 : s2 ≤ w8.heap.size := Nat.le_trans hs2 (Nat.le_of_lt ZM8.lt)
  have HRN := Lib.hid hRn
  have HRL := Lib.hid hRl
  have HOL : Hid (O.length = no) := Lib.hid h.o.1
  have hno : no ≤ 1000 := by have := h.hs; omega
  have hnn : nn ≤ 100000 := h.hn
  clear e_w8 ZM bc7 B3 hrowO7 hGD7 c0 f0 k0 FD7 hRn hRl
  have c2 : _ = some (Value.slice Bo no do') := ZM8.cell 2
  have hBW3 := BW
  go_wp2_with fail
  clear c2 ZM8
  go_loopw [31] (fun i wr => ∃ j : Nat, j ≤ no ∧ i = .int .i64 j ∧ Hid (wr.ownsRow s2 41 2 (.slice Bo no do') no (Ro.flatMap ptC)) ∧ Hid (GD wr s2 no Ro (mixF (outF S) j O)) ∧ Hid (Own wr s7 25 [.slice Av nn cv, .slice Bi ni di, .slice Bo no do']) ∧ Below s2 w8 wr) (fun i _ => no - (intOf i).toNat)
  case atStart => exact ⟨0, Nat.zero_le _, rfl, hrowO8, by rw [mix_0]; exact hGD8, ZMH, Below.refl _ _⟩
  case round =>
    clear hrowO8 hGD8 ZMH
    obtain ⟨j, hj, rfl, HRO, HGD, HZM, BR⟩ := hrel
    by_cases hlt : j < no
    · obtain ⟨⟨nm, bs⟩, hp⟩ := look_ex HOL.out hlt
      obtain ⟨⟨rn, rA, rm, rc⟩, hr⟩ := look_ex HRL.out hlt
      obtain rfl : rn = nm := HRN.out j _ _ hr hp
      have HP := Lib.hid hp
      have HR := Lib.hid hr
      have hmx : (mixF (outF S) j O)[j]? = some ⟨rn, bs⟩ := by rw [mix_at _ (by rw [HOL.out]; exact hlt)]; exact hp
      obtain ⟨g1, _⟩ := HGD.out j _ _ hlt hr hmx
      dsimp only at g1
      have hbl : bs.length = rm := by have := g1.1; rw [flat_len inC 1 inC_len] at this; omega
      have HBL := Lib.hid hbl
      have hrm : rm ≤ 100000 := by rw [← hbl]; exact HB.out _ (List.mem_append_right _ (List.mem_of_getElem? hp))
      have HG9 : Hid (∀ g, rA = some ⟨g, 0, none⟩ → g < wr.heap.size) := Lib.hid fun g e => (g1.lt g (by rw [e]; rfl)).2
      obtain ⟨A0, c0, q0, _, hl0, hc0⟩ := row_at HRO.out
      injection q0 with qa qb qc
      subst qa qc
      obtain ⟨gp, eA, hg, k1⟩ := hc0 (j * 2 + 0) (.string rn) (by rw [flat_at ptC 2 ptC_len Ro j 0 (by omega), hr]; rfl)
      obtain ⟨gp', eA', _, k2⟩ := hc0 (j * 2 + 1) (.slice rA rm rc) (by rw [flat_at ptC 2 ptC_len Ro j 1 (by omega), hr]; rfl)
      subst eA
      injection eA' with eA'
      injection eA' with eA'
      subst eA'
      rw [Nat.add_zero] at k1
      have hjn : (j : Int) < (no : Int) := by omega
      have hj0 : (0 : Int) ≤ (j : Int) := by omega
      clear hp hr hmx g1 hbl hc0 hl0
      go_upto_region 9 with fail
      obtain ⟨w9, e_w9⟩ : ∃ w', wr.alloc (.cells #[.string rn, .slice rA rm rc] 41) = w' := ⟨_, rfl⟩
      have z9 : Bx w9 wr.heap.size [.string rn, .slice rA rm rc] := e_w9 ▸ Bx.made_k wr rfl #[.string rn, .slice rA rm rc] 41
      have b9 : Below wr.heap.size wr w9 := e_w9 ▸ below_lit _ _
      rw [e_w9]
      have hRO9 := Lib.hid (row_on HRO.out b9)
      have hGD9 := Lib.hid (HGD.out.on b9)
      have hZM9 := Lib.hid (HZM.out.below b9 HZM.out.lt)
      have hsr : s2 ≤ wr.heap.size := Nat.le_trans hsz8 BR.size
      have BR9 := BR.trans (b9.mono hsr)
      obtain ⟨s9, hs9⟩ : ∃ s9, wr.heap.size = s9 := ⟨_, rfl⟩
      rw [hs9] at z9 HG9 ⊢
      clear e_w9 k1 k2 b9 hs9 hsr HRO HGD HZM
      have c1 : _ = some (Value.slice rA rm rc) := z9.2 1 _ rfl
      have hz9 := Lib.hid z9
      go_wp2_with fail
      clear c1
      go_loopw [38] (fun i wr => ∃ k : Nat, k ≤ rm ∧ i = .int .i64 k ∧ Hid (wr.ownsRow s2 41 2 (.slice (some ⟨gp, 0, none⟩) no do') no (Ro.flatMap ptC)) ∧ Hid (GD wr s2 no Ro ((mixF (outF S) j O).set j ⟨rn, mixF (sA S) k bs⟩)) ∧ Hid (Own wr s7 25 [.slice Av nn cv, .slice Bi ni di, .slice (some ⟨gp, 0, none⟩) no do']) ∧ Hid (Bx wr s9 [.string rn, .slice rA rm rc]) ∧ Below s2 w8 wr) (fun i _ => rm - (intOf i).toNat)
      case atStart =>
        refine ⟨0, Nat.zero_le _, rfl, hRO9, ?_, hZM9, hz9, BR9⟩
        rw [mix_0]
        have hmx : (mixF (outF S) j O)[j]? = some ⟨rn, bs⟩ := by rw [mix_at _ (by rw [HOL.out]; exact hlt)]; exact HP.out
        obtain ⟨h1, h2⟩ := List.getElem?_eq_some_iff.1 hmx
        rw [← h2, List.set_getElem_self]
        exact hGD9
      case round =>
        clear hRO9 hGD9 hZM9 hz9 z9 BR BR9
        obtain ⟨k, hk, rfl, HRO, HGD, HZM, HZ9, BR⟩ := hrel
        by_cases hkt : k < rm
        · have hset : ((mixF (outF S) j O).set j ⟨rn, mixF (sA S) k bs⟩)[j]? = some ⟨rn, mixF (sA S) k bs⟩ := List.getElem?_set_self (by rw [mix_len, HOL.out]; exact hlt)
          obtain ⟨j1, _⟩ := HGD.out j _ _ hlt HR.out hset
          dsimp only at j1
          obtain ⟨g, rfl, hgs, _⟩ : ∃ g, rA = some ⟨g, 0, none⟩ ∧ s2 ≤ g ∧ g < wr.heap.size := by
            rcases row_own j1 with ⟨_, e, _⟩ | h
            · omega
            · exact h
          have hg9 : g < s9 := HG9.out g rfl
          obtain ⟨x, hx⟩ : ∃ x, bs[k]? = some x := ⟨_, List.getElem?_eq_getElem (by rw [HBL.out]; exact hkt)⟩
          obtain ⟨m, rfl, hm⟩ : ∃ m : Nat, x = (m : Int) ∧ m < nn := by
            have h1 := HPL.out _ (List.mem_of_getElem? HP.out) x (List.mem_of_getElem? hx)
            rw [HLN.out] at h1
            unfold placeS at h1
            simp at h1
            exact ⟨x.toNat, by omega, by omega⟩
          have a0 : wr.cell? ⟨g, k, none⟩ = some (Value.int .i64 (m : Int)) := (j1.cellAt k (by omega)).trans (by
            have e := flat_at inC 1 inC_len (mixF (sA S) k bs) k 0 (by omega)
            rw [Nat.mul_one, Nat.add_zero] at e
            rw [e, mix_at _ (by rw [HBL.out]; exact hkt), hx]
            rfl)
          have FDr := FD.on (B38.trans (BR.mono hw))
          obtain ⟨A2, cc2, e2, _, _, N2⟩ := row_is FDr.rs
          rw [HML.out] at e2 N2
          injection e2 with e2 _ e2'
          subst e2 e2'
          obtain ⟨b1, off1, eB, iB⟩ := N2.iat hm
          obtain rfl : off1 = 0 := (KS.out b1 off1 eB).2
          subst eB
          rw [Nat.zero_add] at iB
          have hb1 : b1 < w3.heap.size := (FD.rs.lt b1 rfl).2
          have hpl : p < w3.heap.size := FD.ow.lt
          obtain ⟨sv, hsv⟩ : ∃ sv, S.getD m 0 = sv := ⟨_, rfl⟩
          rw [hsv] at iB
          have HSV : Hid (sA S (m : Int) = sv) := Lib.hid (by unfold sA; rw [Int.toNat_natCast]; exact hsv)
          have HX := Lib.hid hx
          have hkn : (k : Int) < (rm : Int) := by omega
          have hk0 : (0 : Int) ≤ (k : Int) := by omega
          have hm1 : (m : Int) < (nn : Int) := by omega
          have hm0 : (0 : Int) ≤ (m : Int) := by omega
          clear hsv hx N2
          go_upto_region 12 with fail
          have hp9 : p ≠ g := by omega
          have h9g : s9 ≠ g := by omega
          have h1g : b1 ≠ g := by omega
          refine LexG.region_plan (KB3.ok p s9 b1) 0 [0, 1, 2, 3, 4, 5, 6, 7, 8, 9, 10, 11] (by kernel_rfl) (by kernel_rfl) (by kernel_rfl) (by kernel_rfl) (by kernel_rfl) ?_
          dsimp only [LexG.pick, LexG.nth]
          have bd : Below wr.heap.size wr wr.drew := (Below.refl _ _).drew
          replace FDr := FDr.on bd
          replace iB := iB.on bd
          replace HRO := Lib.hid (row_on HRO.out bd)
          replace HGD := Lib.hid (HGD.out.on bd)
          replace HZM := Lib.hid (HZM.out.below bd HZM.out.lt)
          replace HZ9 := Lib.hid (HZ9.out.on bd)
          replace j1 := row_on j1 bd
          have hsr : s2 ≤ wr.heap.size := Nat.le_trans hsz8 BR.size
          replace BR := BR.trans (bd.mono hsr)
          obtain ⟨w4, e4⟩ : ∃ w', wr.drew = w' := ⟨_, rfl⟩
          rw [e4] at FDr iB HRO HGD HZM HZ9 j1 BR ⊢
          clear e4 bd a0 hsr
          have lf0 := fun s : LexG.Wd (KB3 p s9 b1) w4 => (show s.w.cell? ⟨p, 1, none⟩ = some (Value.slice (some ⟨b1, 0, none⟩) nn cs) from (cell_of_heap s.rel.1 1).trans (FDr.ow.cell 1))
          have lf1 := fun s : LexG.Wd (KB3 p s9 b1) w4 => (show s.w.cell? ⟨s9, 1, none⟩ = some (Value.slice (some ⟨g, 0, none⟩) rm rc) from (cell_of_heap s.rel.2.1 1).trans (HZ9.out.2 1 _ rfl))
          have lf2 := fun s : LexG.Wd (KB3 p s9 b1) w4 => (show s.w.cell? ⟨b1, m, none⟩ = some (Value.int .i64 sv) from (cell_of_heap s.rel.2.2 m).trans iB.2)
          refine LexG.lex_plain 11 (by kernel_rfl) ?_
          dsimp only [List.take, List.drop]
          repeat go_big_quiet_step (fail)
          refine wpQuiet_nil ?_
          clear lf0 lf1 lf2
          have a1 : w4.cell? ⟨g, k, none⟩ = some (Value.int .i64 (m : Int)) := (j1.cellAt k (by omega)).trans (by
            have e := flat_at inC 1 inC_len (mixF (sA S) k bs) k 0 (by omega)
            rw [Nat.mul_one, Nat.add_zero] at e
            rw [e, mix_at _ (by rw [HBL.out]; exact hkt), HX.out]
            rfl)
          have f1 := j1.frozenAt k
          refine LexG.lex_call (by kernel_rfl) (by kernel_rfl) (fun K hK => ?_)
          go_simp
          clear a1 f1
          refine hK _ _ (KB3.set w4 hp9 h9g h1g k (.int .i64 sv)) ?_
          clear hK K
          obtain ⟨cu, hcu, _⟩ := row_type j1
          have HRO' := Lib.hid (row_other HRO.out hcu (by decide) k (.int .i64 sv))
          have hset : ((mixF (outF S) j O).set j ⟨rn, mixF (sA S) k bs⟩)[j]? = some ⟨rn, mixF (sA S) k bs⟩ := List.getElem?_set_self (by rw [mix_len, HOL.out]; exact hlt)
          have hGN := HGD.out.put (i := k) hlt HR.out hset rfl sv
          rw [List.set_set] at hGN
          dsimp only at hGN
          rw [← HSV.out, ← mix_next (sA S) HX.out, HSV.out] at hGN
          have HGD' := Lib.hid hGN
          have HZM' := Lib.hid (HZM.out.apart (type_ne HZM.out hcu (by decide)) k (.int .i64 sv))
          have HZ9' := Lib.hid (HZ9.out.apart h9g k (.int .i64 sv))
          have BR' := BR.setCell (p := ⟨g, k, none⟩) hgs (.int .i64 sv)
          clear hGN hset
          refine LexG.lex_nil ?_
          dsimp only [NoPanic]
          go_wp2_with fail
          go_roundw
          case rel => exact ⟨k + 1, by omega, by go_num, HRO', HGD', HZM', HZ9', BR'⟩
          case measure => simp [intOf]; omega
        · obtain rfl : k = rm := by omega
          have hkn : ¬ (k : Int) < (k : Int) := by omega
          have HGD' : Hid (GD wr s2 no Ro (mixF (outF S) (j + 1) O)) := Lib.hid (by
            have e := mix_all (sA S) bs
            rw [HBL.out] at e
            rw [mix_next (outF S) HP.out]
            have := HGD.out
            rw [e] at this
            exact this)
          go_wp2_with fail
          go_roundw
          case rel => exact ⟨j + 1, by omega, by go_num, HRO, HGD', HZM, BR⟩
          case measure => simp [intOf]; omega
    · obtain rfl : j = no := by omega
      have hjn : ¬ (j : Int) < (j : Int) := by omega
      have e := mix_all (outF S) O
      rw [HOL.out] at e
      rw [e] at HGD
      clear e
      go_upto_region 15 with fail
      have B3r := B38.trans (BR.mono hw)
      have FDr := FD.on B3r
      have hNr := h.n.on B3r
      have z0r := z0.on B3r
      have ZRr := ZR.below B3r ZR.lt
      have hw3r := B3r.size
      have PIr := hpi _ (fun b _ hb => (bc8.trans BR).block b hb) (Nat.le_trans hsz8 BR.size)
      have hrn := FDr.rn
      have BWr := BW.trans ((bc8.trans BR).mono (by omega))
      have C9 : ∀ w', Fd w' w2.heap.size p (.slice Av nn cv) (.slice As nn cs) (M.map (dffS S)) S → Ns w' An nn N → Calls Try.prog 41 #[.pointer (some ⟨p, 0, none⟩), .slice An nn cn] w' fun e w'' => e = .returned (.int .i64 (chN S (M.map (dffS S)) N nn : Nat)) ∧ Below w'.heap.size w' w'' := fun w' f n => by
        have := changed_as (cn := cn) f (N := N) (An := An) (by rw [HML.out]; exact n) (by rw [HML.out]; exact hnn)
        rw [HML.out] at this
        exact this
      have hne7 : s7 ≠ s1 := by have := ZR.lt; omega
      have hne0 : w.heap.size ≠ s1 := by omega
      clear BR FD z0 ZR BW
      refine LexG.region_plan (KB3.ok s7 w.heap.size w.heap.size) 0 [0, 1, 2, 3, 4, 5, 6, 7] (by kernel_rfl) (by kernel_rfl) (by kernel_rfl) (by kernel_rfl) (by kernel_rfl) ?_
      dsimp only [LexG.pick, LexG.nth]
      have bd : Below wr.heap.size wr wr.drew := (Below.refl _ _).drew
      replace FDr := FDr.on bd
      replace hNr := hNr.on bd
      replace z0r := z0r.on bd
      replace ZRr := ZRr.below bd ZRr.lt
      replace HZM := Lib.hid (HZM.out.below bd HZM.out.lt)
      replace PIr := PIr.on bd
      replace HRO := Lib.hid (row_on HRO.out bd)
      replace HGD := Lib.hid (HGD.out.on bd)
      replace hrn := row_on hrn bd
      replace BWr := Below.step BWr bd
      obtain ⟨w4, e4⟩ : ∃ w', wr.drew = w' := ⟨_, rfl⟩
      rw [e4] at FDr hNr z0r ZRr HZM PIr HRO HGD hrn BWr ⊢
      clear e4 bd
      have lf0 := fun s : LexG.Wd (KB3 s7 w.heap.size w.heap.size) w4 => (show s.w.cell? ⟨s7, 0, none⟩ = some (Value.slice Av nn cv) from (cell_of_heap s.rel.1 0).trans (HZM.out.cell 0))
      have lf1 := fun s : LexG.Wd (KB3 s7 w.heap.size w.heap.size) w4 => (show s.w.cell? ⟨s7, 1, none⟩ = some (Value.slice Bi ni di) from (cell_of_heap s.rel.1 1).trans (HZM.out.cell 1))
      have lf2 := fun s : LexG.Wd (KB3 s7 w.heap.size w.heap.size) w4 => (show s.w.cell? ⟨s7, 2, none⟩ = some (Value.slice Bo j do') from (cell_of_heap s.rel.1 2).trans (HZM.out.cell 2))
      have lf3 := fun s : LexG.Wd (KB3 s7 w.heap.size w.heap.size) w4 => (show s.w.cell? ⟨w.heap.size, 0, none⟩ = some (Value.slice An nn cn) from (cell_of_heap s.rel.2.1 0).trans (z0r.2 0 _ rfl))
      refine LexG.lex_plain 4 (by kernel_rfl) ?_
      dsimp only [List.take, List.drop]
      repeat go_big_quiet_step (fail)
      refine wpQuiet_nil ?_
      clear lf0 lf1 lf2 lf3
      refine LexG.lex_call (by kernel_rfl) (by kernel_rfl) (fun K hK => ?_)
      go_simp
      refine (C9 _ FDr hNr).mono ?_
      rintro en w5 ⟨rfl, b⟩
      dsimp only
      refine hK _ _ ⟨b.block _ HZM.out.lt, b.block _ z0r.1, b.block _ z0r.1⟩ ?_
      clear hK K
      replace ZRr := ZRr.below b ZRr.lt
      replace PIr := PIr.on b
      replace HRO := Lib.hid (row_on HRO.out b)
      replace HGD := Lib.hid (HGD.out.on b)
      replace hrn := row_on hrn b
      replace BWr := Below.step BWr b
      clear b FDr hNr z0r HZM
      have c0 := ZRr.cell 0; have c1 := ZRr.cell 1; have c2 := ZRr.cell 2
      have f0 := ZRr.free 0; have f1 := ZRr.free 1; have f2 := ZRr.free 2
      refine LexG.lex_call (by kernel_rfl) (by kernel_rfl) (fun K hK => ?_)
      go_simp
      clear c0 c1 c2 f0 f1 f2
      have kb := (KB3.ok s7 w.heap.size w.heap.size).trans _ _ _ ((KB3.ok s7 w.heap.size w.heap.size).trans _ _ _ (KB3.set w5 hne7 hne0 hne0 0 (.slice Av nn cv)) (KB3.set _ hne7 hne0 hne0 1 (.slice Bi ni di))) (KB3.set _ hne7 hne0 hne0 2 (.slice Bo j do'))
      refine hK _ _ kb ?_
      clear hK K kb
      have hs1s : s1 < s := by omega
      have hs12 : s1 < s2 := by omega
      have VR := ((ZRr.put 0 (.slice Av nn cv)).put 1 (.slice Bi ni di)).put 2 (.slice Bo j do')
      have p0 : _ = some (Value.slice Av nn cv) := VR.cell 0; have p1 : _ = some (Value.slice Bi ni di) := VR.cell 1; have p2 : _ = some (Value.slice Bo j do') := VR.cell 2
      have hrn6 := row_keepS (row_keepS (row_keepS hrn hs1w2 0 (.slice Av nn cv)) hs1w2 1 (.slice Bi ni di)) hs1w2 2 (.slice Bo j do')
      have hro6 := row_keepS (row_keepS (row_keepS HRO.out hs12 0 (.slice Av nn cv)) hs12 1 (.slice Bi ni di)) hs12 2 (.slice Bo j do')
      have hgd6 := ((HGD.out.keepS hs12 0 (.slice Av nn cv)).keepS hs12 1 (.slice Bi ni di)).keepS hs12 2 (.slice Bo j do')
      have hpi6 := ((PIr.far (grown_set w5 ⟨s1, 0, none⟩ (.slice Av nn cv)) hs1s).far (grown_set _ ⟨s1, 1, none⟩ (.slice Bi ni di)) hs1s).far (grown_set _ ⟨s1, 2, none⟩ (.slice Bo j do')) hs1s
      have hle : w.heap.size ≤ s1 := by omega
      have BW6 := ((BWr.setCell (p := ⟨s1, 0, none⟩) hle (.slice Av nn cv)).setCell (p := ⟨s1, 1, none⟩) hle (.slice Bi ni di)).setCell (p := ⟨s1, 2, none⟩) hle (.slice Bo j do')
      have hpo := hgd6.psH hro6 HRL.out (by rw [List.length_map]; exact HOL.out) (fun k r q hr hq => by
        rw [List.getElem?_map] at hq
        cases hq0 : O[k]? with
        | none => rw [hq0] at hq; cases hq
        | some q0 =>
          rw [hq0] at hq
          injection hq with hq
          rw [← hq]
          exact HRN.out k r q0 hr hq0)
      have hpn := row_ns hrn6
      rw [HML.out] at hpn
      obtain ⟨A2, cc2, e2, _, hA2, N2⟩ := hpn
      injection e2 with e2 _ e2'
      subst e2 e2'
      have hle2 : w.heap.size ≤ w2.heap.size := by omega
      have hle3 : w.heap.size ≤ s := by omega
      have hle4 : w.heap.size ≤ s2 := by omega
      have HNT : Hid (NtH w.heap.size (((w5.setCell ⟨s1, 0, none⟩ (.slice Av nn cv)).setCell ⟨s1, 1, none⟩ (.slice Bi ni di)).setCell ⟨s1, 2, none⟩ (.slice Bo j do')) Av nn cv Bi ni di Bo j do' (M.map (dffS S)) I (O.map (outF S))) := Lib.hid ⟨⟨N2, hpi6.ps, hpo.ps, swi, swo, hnn, h.hs, fun q hq => by
        rcases List.mem_append.1 hq with hq | hq
        · exact h.hb q (List.mem_append_left _ hq)
        · obtain ⟨q0, hq0, rfl⟩ := List.mem_map.1 hq
          unfold outF
          rw [List.length_map]
          exact h.hb q0 (List.mem_append_right _ hq0)⟩, fun b off e => Nat.le_trans hle2 (hA2 b off e).1, hpi6.mono hle3, hpo.mono hle4⟩
      have HBW := Lib.hid BW6
      clear hA2 hle2 hle3 hle4 BW6 hpo hpi6 hgd6 hro6 hrn6 N2 PIr BWr VR
      refine LexG.lex_plain 2 (by kernel_rfl) ?_
      dsimp only [List.take, List.drop]
      repeat go_big_quiet_step (fail)
      refine wpQuiet_nil ?_
      refine LexG.lex_nil ?_
      dsimp only [NoPanic]
      go_wp2_with fail
      refine bodyPost_ret (v := .tuple #[.agg #[.slice Av nn cv, .slice Bi ni di, .slice Bo j do'], .int .i64 (chN S (M.map (dffS S)) N nn : Nat), .int .i64 0]) (by simp [results, Try.results17, go_sem, p0, p1, p2]) rfl ?_
      exact ⟨⟨Av, cv, Bi, di, Bo, do', M, S, rfl, HRUN.out, HFJ.out, HNT.out, svn⟩, HBW.out⟩
end Go.Proofs.Ytcehklnonhalhaa
