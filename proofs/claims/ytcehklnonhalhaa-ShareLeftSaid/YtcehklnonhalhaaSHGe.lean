/-
  What the proofs of ShareSame and ShareLeft need: Ge.
-/
import Derived.Test.YtcehklnonhalhaaSHGd
namespace Go.Proofs.Ytcehklnonhalhaa
open Go.RowKit
set_option linter.unusedVariables false
set_option maxRecDepth 4000

def dupAt (L : List Pt) (j : Nat) : Bool := match L[j]? with
  | some p => (L.take j).any fun q => p.name.toList == q.name.toList
  | none => false
def dupS (L : List Pt) : Bool := (List.range L.length).any (dupAt L)
theorem range_anyn {p : Nat → Bool} {j : Nat} (h : (List.range j).any p = false) (hx : p j = false) : (List.range (j + 1)).any p = false := by
  rw [List.range_succ, List.any_append, h]
  simp [hx]
theorem range_any {p : Nat → Bool} {j n : Nat} (hj : j < n) (hx : p j = true) : (List.range n).any p = true := List.any_eq_true.2 ⟨j, List.mem_range.2 hj, hx⟩
theorem anyn_take {α : Type} {p : α → Bool} {L : List α} {k : Nat} {x : α} (h : (L.take k).any p = false) (hk : L[k]? = some x) (hx : p x = false) : (L.take (k + 1)).any p = false := by
  rw [List.take_add_one, hk, List.any_append, h]
  simp [hx]
set_option maxHeartbeats 2000000 in
/-- TWO PORTS HAVE ONE NAME. -/
theorem haveOneName_as {A : Option Addr} {n c : Nat} {L : List Pt} {w : World} (h : Ps w A n L) (hn : n ≤ 1000000) (hnc : n ≤ c) (v : Bool) (hv : dupS L = v) :
    Calls Try.prog 100 #[.slice A n c] w fun e w' => e = .returned (.bool v) ∧ Below w.heap.size w w' := by
  have HV := Lib.hid hv
  clear hv
  go_enter Try.func100, Try.ntmps100
  go_wp2_with fail
  go_loopw [9] (fun i wr => ∃ j : Nat, j ≤ n ∧ i = .int .i64 j ∧ (List.range j).any (dupAt L) = false ∧ Below w.heap.size w wr) (fun i _ => n - (intOf i).toNat)
  case atStart => exact ⟨0, Nat.zero_le _, rfl, rfl, Below.refl _ _⟩
  case round =>
    obtain ⟨j, hj, rfl, ha, BW⟩ := hrel
    have HA := Lib.hid ha
    clear ha
    have h1 := h.on BW
    by_cases hlt : j < n
    · obtain ⟨b0, off, nm, A', m0, c0, bs, rfl, HX, k1, k2, _⟩ := h1.at hlt
      have hjc : (j : Int) ≤ (c : Int) := by omega
      go_upto_region 4 with fail
      clear k1 k2
      obtain ⟨w1, e_w1⟩ : ∃ w', wr.alloc (.cells #[.string nm, .slice A' m0 c0] 41) = w' := ⟨_, rfl⟩
      have z0 : Bx w1 wr.heap.size [.string nm, .slice A' m0 c0] := e_w1 ▸ Bx.made_k wr rfl #[.string nm, .slice A' m0 c0] 41
      have b1 : Below wr.heap.size wr w1 := e_w1 ▸ below_lit _ _
      replace BW := Below.step BW b1
      rw [e_w1]
      clear e_w1
      go_wp2_with fail
      have BW0 := BW
      clear BW b1
      go_loopw [18] (fun i wr => ∃ l : Nat, l ≤ j ∧ i = .int .i64 l ∧ ((L.take j).take l).any (fun q => nm.toList == q.name.toList) = false ∧ Below w1.heap.size w1 wr) (fun i _ => j - (intOf i).toNat)
      case atStart => exact ⟨0, Nat.zero_le _, rfl, rfl, Below.refl _ _⟩
      case round =>
        obtain ⟨l, hl, rfl, ha, BW⟩ := hrel
        have HC := Lib.hid ha
        clear ha
        replace z0 := z0.on BW
        by_cases hlm : l < j
        · obtain ⟨b2, off2, nq, A2, m1, c1, bs2, eA, HX2, k1, k2, _⟩ := ((h.on BW0).on BW).at (show l < n by omega)
          injection eA with eA
          injection eA with e1 e2
          subst e1 e2
          have HX3 : Hid ((L.take j)[l]? = some ⟨nq, bs2⟩) := Lib.hid (by rw [List.getElem?_take, if_pos hlm]; exact HX2.out)
          go_upto_region 7 with fail
          clear k1 k2
          obtain ⟨w2, e_w2⟩ : ∃ w', wr.alloc (.cells #[.string nq, .slice A2 m1 c1] 41) = w' := ⟨_, rfl⟩
          have z1 : Bx w2 wr.heap.size [.string nq, .slice A2 m1 c1] := e_w2 ▸ Bx.made_k wr rfl #[.string nq, .slice A2 m1 c1] 41
          have b1 : Below wr.heap.size wr w2 := e_w2 ▸ below_lit _ _
          replace BW := Below.step BW b1
          rw [e_w2]
          clear e_w2
          have z0c0 := (z0.on b1).2 0 _ rfl
          have z1c0 := z1.2 0 _ rfl
          obtain ⟨u, hu⟩ : ∃ u, (nm.toList == nq.toList) = u := ⟨_, rfl⟩
          cases u
          · have HT := Lib.hid (anyn_take (p := fun q : Pt => nm.toList == q.name.toList) HC.out HX3.out hu)
            go_wp2_with fail
            go_roundw
            case rel => exact ⟨l + 1, by omega, by go_num, HT.out, BW⟩
            case measure => simp [intOf]; omega
          · have HR : Hid (dupS L = true) := Lib.hid (range_any (show j < L.length by rw [h.1]; exact hlt) (by
              unfold dupAt
              rw [HX.out]
              exact List.any_eq_true.2 ⟨_, List.mem_of_getElem? HX3.out, hu⟩))
            go_wp2_with fail
            go_ret
            exact ⟨ret_bool (by rw [← HV.out, HR.out]), Below.step BW0 BW⟩
        · have HT : Hid (dupAt L j = false) := by
            have := HC.out
            rw [List.take_of_length_le (by rw [List.length_take, h.1]; omega)] at this
            exact Lib.hid (by unfold dupAt; rw [HX.out]; exact this)
          have HT2 := Lib.hid (range_anyn HA.out HT.out)
          go_wp2_with fail
          go_roundw
          case rel => exact ⟨j + 1, by omega, by go_num, HT2.out, Below.step BW0 BW⟩
          case measure => simp [intOf]; omega
    · have HR : Hid (dupS L = false) := by
        have := HA.out
        have e : j = L.length := by rw [h.1]; omega
        rw [e] at this
        exact Lib.hid this
      go_wp2_with fail
      go_ret
      exact ⟨ret_bool (by rw [← HV.out, HR.out]), BW⟩
theorem n6made_one (z : Value) (n : Nat) : madeCells #[z] n = (List.replicate n z).toArray := by
  unfold madeCells
  apply Array.ext
  · simp
  · intro i h1 h2
    simp [Nat.mod_one]
theorem info_parts' {x : Option TypeInfo} {z : Option Value} {s b : Nat} (h : x.map (fun i => (i.zero, i.size, i.bytes)) = some (z, s, b)) : ∃ i, x = some i ∧ i.zero = z ∧ i.size = s ∧ i.bytes = b := by
  cases x with
  | none => simp at h
  | some i =>
    simp only [Option.map_some, Option.some.injEq, Prod.mk.injEq] at h
    exact ⟨i, rfl, h.1, h.2.1, h.2.2⟩
/-- make([]T, n): a new block of n zeros. -/
theorem n6wpList_zeros {P : Program} (w : World) {ops : Array Oper} {rest : List Oper} {o : Oper} {a : Act} {Q : Exit → Act → World → Prop}
    (hg : o.guard = none) (l c : Operand) (t : TypeId) (hop : o.op = Op.makeSlice t l c) (e : TypeId) (z : Value) (by_ : Nat)
    (h1 : P.underlying t = some (.slice e)) (h2 : (P.info? e).map (fun i => (i.zero, i.size, i.bytes)) = some (some z, 1, by_)) (hz : z.cells = #[z]) (hb : by_ ≤ 64)
    (L : Int) (n : Nat) (hl : a.eval l = .int .i64 L) (hc : a.eval c = .int .i64 L) (hL : L = (n : Int)) (hn : n ≤ 3000000)
    (hK : ∀ w', Own w' w.heap.size e (List.replicate n z) → Below w.heap.size w w' → w'.heap.size = w.heap.size + 1 → wpList P ops Q rest (a.put o.dst (.slice (some ⟨w.heap.size, 0, none⟩) n n)) w') :
    wpList P ops Q (o :: rest) a w := by
  refine wpList_plain hg fun K hK' => ?_
  obtain ⟨i, hi, i1, i2, i3⟩ := info_parts' h2
  subst hL
  have hby : (i.bytes : Int) * (n : Int) ≤ 281474976710656 := by
    have : i.bytes * n ≤ 64 * 3000000 := Nat.mul_le_mul (by omega) hn
    have h : ((i.bytes * n : Nat) : Int) ≤ 281474976710656 := by omega
    rwa [Int.natCast_mul] at h
  have hrun := run_make (P := P) w t e i z h1 hi i1 .i64 .i64 n n (by omega) (by omega) hby (by omega)
  rw [Int.toNat_natCast, i2, Nat.mul_one, hz, n6made_one] at hrun
  unfold Oper.wp
  simp [execOp, hop, hl, hc, hrun, Result.andThen]
  exact hK' _ _ (hK _ (Own.made w e _) ((Below.refl _ _).alloc (Nat.le_refl _) _) (by simp))
theorem n6bool_info : (Try.prog.info? 4).map (fun i => (i.zero, i.size, i.bytes)) = some (some (.bool false), 1, 1) := by kernel_rfl
/-- which places came. -/
def seen (n : Nat) (P : List Int) : List Value := (List.range n).map fun i : Nat => .bool (decide ((i : Int) ∈ P))
theorem seen_nil (n : Nat) : List.replicate n (Value.bool false) = seen n [] := by
  apply List.ext_getElem
  · simp [seen]
  · intro i h1 h2
    simp [seen]
theorem seen_at {n p : Nat} {P : List Int} (h : p < n) : (seen n P)[p]? = some (.bool (decide ((p : Int) ∈ P))) := by
  unfold seen
  rw [List.getElem?_map, List.getElem?_range h]
  rfl
theorem seen_set {n p : Nat} {P : List Int} (h : p < n) : (seen n P).set p (.bool true) = seen n (P ++ [(p : Int)]) := by
  apply List.ext_getElem?
  intro i
  rw [List.getElem?_set]
  by_cases hi : i < n
  · rw [seen_at hi, seen_at hi]
    by_cases hp : p = i
    · subst hp
      simp [seen, h]
    · rw [if_neg hp]
      have : (i : Int) ≠ (p : Int) := by omega
      simp [this]
  · have h1 : (seen n P)[i]? = none := by simp [seen]; omega
    have h2 : (seen n (P ++ [(p : Int)]))[i]? = none := by simp [seen]; omega
    rw [h1, h2, if_neg (by omega)]
def kindAt (N : List Nd) (i : Nat) : Int := match N[i]? with | some y => y.k | none => 0
def comesS (L : List Pt) : List Int := L.flatMap Pt.bits
def fedAt (N : List Nd) (B : List Int) (i : Nat) : Bool := decide (B.count (i : Int) = if kindAt N i = 1 then 1 else 0)
/-- is each Input a bit that comes in, just once, and nothing else? -/
def fedS (N : List Nd) (L : List Pt) : Bool := (List.range N.length).all (fedAt N (comesS L))
def Fdp (N : List Nd) (P : List Int) : Prop := P.Nodup ∧ ∀ i : Nat, (i : Int) ∈ P → kindAt N i = 1
theorem Fdp.nil_ (N : List Nd) : Fdp N [] := ⟨List.nodup_nil, fun i h => by cases h⟩
theorem Fdp.snoc {N : List Nd} {P : List Int} {p : Nat} (h : Fdp N P) (hk : kindAt N p = 1) (hn : decide ((p : Int) ∈ P) = false) : Fdp N (P ++ [(p : Int)]) := by
  refine ⟨List.nodup_append.2 ⟨h.1, by simp, fun a ha b hb e => ?_⟩, fun i hi => ?_⟩
  · simp only [List.mem_singleton] at hb
    subst e hb
    exact of_decide_eq_false hn ha
  · rcases List.mem_append.1 hi with hi | hi
    · exact h.2 i hi
    · simp only [List.mem_singleton] at hi
      have : i = p := by omega
      subst this
      exact hk
theorem comes_split {L : List Pt} {j : Nat} {nm : ByteArray} {bs : List Int} (hx : L[j]? = some ⟨nm, bs⟩) {l : Nat} {x : Int} (hl : bs[l]? = some x) : ∃ R, comesS L = (comesS (L.take j) ++ bs.take l) ++ x :: R := by
  obtain ⟨h1, h2⟩ := List.getElem?_eq_some_iff.1 hx
  obtain ⟨h3, h4⟩ := List.getElem?_eq_some_iff.1 hl
  have e1 : L = L.take j ++ (⟨nm, bs⟩ :: L.drop (j + 1)) := by rw [← h2, ← List.drop_eq_getElem_cons h1, List.take_append_drop]
  have e2 : bs = bs.take l ++ (x :: bs.drop (l + 1)) := by rw [← h4, ← List.drop_eq_getElem_cons h3, List.take_append_drop]
  refine ⟨bs.drop (l + 1) ++ comesS (L.drop (j + 1)), ?_⟩
  conv => lhs; rw [e1]
  unfold comesS
  rw [List.flatMap_append, List.flatMap_cons]
  conv => lhs; rw [e2]
  simp
theorem comes_take {L : List Pt} {j : Nat} {nm : ByteArray} {bs : List Int} (hx : L[j]? = some ⟨nm, bs⟩) : comesS (L.take (j + 1)) = comesS (L.take j) ++ bs := by
  unfold comesS
  rw [List.take_add_one, hx, List.flatMap_append]
  simp
theorem fed_kind {N : List Nd} {L : List Pt} {P R : List Int} {p : Nat} (he : comesS L = P ++ (p : Int) :: R) (hp : p < N.length) (hk : kindAt N p ≠ 1) : fedS N L = false := by
  refine range_not hp ?_
  unfold fedAt
  rw [he, List.count_append, List.count_cons_self, if_neg hk]
  exact decide_eq_false (by omega)
theorem fed_twice {N : List Nd} {L : List Pt} {P R : List Int} {p : Nat} (he : comesS L = P ++ (p : Int) :: R) (hp : p < N.length) (hm : decide ((p : Int) ∈ P) = true) : fedS N L = false := by
  refine range_not hp ?_
  have := List.count_pos_iff.2 (of_decide_eq_true hm)
  unfold fedAt
  rw [he, List.count_append, List.count_cons_self]
  exact decide_eq_false (by split <;> omega)
theorem fed_none {N : List Nd} {L : List Pt} {p : Nat} (hp : p < N.length) (hk : kindAt N p = 1) (hm : decide ((p : Int) ∈ comesS L) = false) : fedS N L = false := by
  refine range_not hp ?_
  have := List.count_eq_zero.2 (of_decide_eq_false hm)
  unfold fedAt
  rw [this, if_pos hk]
  exact decide_eq_false (by omega)
theorem fed_ok {N : List Nd} {L : List Pt} (h : Fdp N (comesS L)) (hall : ∀ i < N.length, kindAt N i = 1 → decide ((i : Int) ∈ comesS L) = true) : fedS N L = true := by
  unfold fedS
  rw [List.all_eq_true]
  intro i hi
  have hi := List.mem_range.1 hi
  unfold fedAt
  rw [h.1.count]
  by_cases hk : kindAt N i = 1
  · rw [if_pos hk, if_pos (of_decide_eq_true (hall i hi hk))]
    rfl
  · rw [if_neg hk, if_neg (fun hm => hk (h.2 i hm))]
    rfl
theorem Own.cells_at {w : World} {g n p : Nat} {P : List Int} {t : TypeId} (h : Own w g t (seen n P)) (hp : p < n) : w.cell? ⟨g, p, none⟩ = some (.bool (decide ((p : Int) ∈ P))) := by
  rw [h.cell p, seen_at hp]
theorem Ps.at0 {w : World} {A : Option Addr} {n : Nat} {L : List Pt} (h : Ps w A n L) {k : Nat} (hk : k < n) : ∃ b off nm A' m c' bs, A = some ⟨b, off, none⟩ ∧ b < w.heap.size ∧ Hid (L[k]? = some ⟨nm, bs⟩) ∧ w.cell? ⟨b, off + k * 2, none⟩ = some (.string nm) ∧ w.cell? ⟨b, off + k * 2 + 1, none⟩ = some (.slice A' m c') ∧ Is w A' m bs := by
  obtain ⟨⟨nm, bs⟩, hx⟩ := look_ex h.1 hk
  obtain ⟨b, off, A', m, c, h1, h2, h3, h4, h5, h6, h7⟩ := h.2 k _ hx
  exact ⟨b, off, nm, A', m, c, bs, h1, h2, Lib.hid hx, h3, h4, h7⟩
set_option maxHeartbeats 8000000 in
/-- WHAT COMES IN IS FED. -/
theorem isFed_as {An Ai Ao : Option Addr} {nn cn ni ci no co : Nat} {N : List Nd} {L : List Pt} {w : World} (hN : Ns w An nn N) (hL : Ps w Ai ni L) (hn : nn ≤ 1000000) (hi : ni ≤ 1000000) (hb : ∀ p ∈ L, p.bits.length ≤ 1000000) (hr : ∀ p ∈ L, ∀ x ∈ p.bits, ∃ q : Nat, x = (q : Int) ∧ q < nn) (v : Bool) (hv : fedS N L = v) :
    Calls Try.prog 101 #[.agg #[.slice An nn cn, .slice Ai ni ci, .slice Ao no co]] w fun e w' => e = .returned (.bool v) ∧ Below w.heap.size w w' := by
  have HV := Lib.hid hv
  have HB := Lib.hid hb
  have HR := Lib.hid hr
  have HLN := Lib.hid hN.1
  clear hv hb hr
  go_enter Try.func101, Try.ntmps101
  go_upto_region 1 with fail
  obtain ⟨w0, e_w0⟩ : ∃ w', w.alloc (.cells #[.slice An nn cn, .slice Ai ni ci, .slice Ao no co] 25) = w' := ⟨_, rfl⟩
  have z0 : Bx w0 w.heap.size [.slice An nn cn, .slice Ai ni ci, .slice Ao no co] := e_w0 ▸ Bx.made_k w rfl #[.slice An nn cn, .slice Ai ni ci, .slice Ao no co] 25
  have B0 : Below w.heap.size w w0 := e_w0 ▸ below_lit _ _
  rw [e_w0]
  clear e_w0
  replace hN := hN.on B0
  replace hL := hL.on B0
  have z0c0 := z0.2 0 _ rfl
  go_wp2_with (at_make; refine n6wpList_zeros _ rfl _ _ 48 rfl 4 (.bool false) 1 Try.underlying48 n6bool_info rfl (by omega) _ nn rfl rfl rfl (by omega) ?_; intro w1 ho b1 hz1; rw [seen_nil] at ho; have z0c1 := (z0.on b1).2 1 _ rfl)
  clear z0c0 z0c1 hz1
  obtain ⟨g, hg⟩ : ∃ g, w0.heap.size = g := ⟨_, rfl⟩
  rw [hg] at ho ⊢
  go_loopw [17] (fun i wr => ∃ j : Nat, j ≤ ni ∧ i = .int .i64 j ∧ Fdp N (comesS (L.take j)) ∧ Own wr g 4 (seen nn (comesS (L.take j))) ∧ Below w0.heap.size w0 wr) (fun i _ => ni - (intOf i).toNat)
  case atStart => exact ⟨0, Nat.zero_le _, rfl, Fdp.nil_ N, ho, b1⟩
  case round =>
    clear ho b1
    obtain ⟨j, hj, rfl, hf, ho, BW⟩ := hrel
    have HF := Lib.hid hf
    clear hf
    by_cases hlt : j < ni
    · obtain ⟨b0, off, nm, A', m, c', bs, eA, hbw, HX, k1, k2, hi2⟩ := hL.at0 hlt
      subst eA
      replace k1 := (BW.cell (p := ⟨b0, off + j * 2, none⟩) hbw).trans k1
      replace k2 := (BW.cell (p := ⟨b0, off + j * 2 + 1, none⟩) hbw).trans k2
      have hm : m ≤ 1000000 := by rw [← hi2.1]; exact HB.out _ (List.mem_of_getElem? HX.out)
      have HBR : Hid (∀ x ∈ bs, ∃ q : Nat, x = (q : Int) ∧ q < nn) := Lib.hid (HR.out _ (List.mem_of_getElem? HX.out))
      go_upto_region 5 with fail
      clear k1 k2
      obtain ⟨w2, e_w2⟩ : ∃ w', wr.alloc (.cells #[.string nm, .slice A' m c'] 41) = w' := ⟨_, rfl⟩
      have z1 : Bx w2 wr.heap.size [.string nm, .slice A' m c'] := e_w2 ▸ Bx.made_k wr rfl #[.string nm, .slice A' m c'] 41
      have b2 : Below wr.heap.size wr w2 := e_w2 ▸ below_lit _ _
      rw [e_w2]
      clear e_w2
      have ho2 := Own.below ho b2 ho.lt
      have z1c1 := z1.2 1 _ rfl
      have BW2 := Below.step BW b2
      have hi0 := hi2
      clear hi2
      go_wp2_with fail
      go_loopw [24] (fun i wr => ∃ l : Nat, l ≤ m ∧ i = .int .i64 l ∧ Fdp N (comesS (L.take j) ++ bs.take l) ∧ Own wr g 4 (seen nn (comesS (L.take j) ++ bs.take l)) ∧ Below w0.heap.size w0 wr) (fun i _ => m - (intOf i).toNat)
      case atStart => exact ⟨0, Nat.zero_le _, rfl, by simpa using HF.out, by simpa using ho2, BW2⟩
      case round =>
        clear ho ho2 z1c1 z1 BW BW2 b2
        obtain ⟨l, hl, rfl, hf, ho, BW⟩ := hrel
        have HF2 := Lib.hid hf
        clear hf
        by_cases hlm : l < m
        · obtain ⟨b3, off3, x, eB, HX2, cx⟩ := (hi0.on BW).at hlm
          subst eB
          obtain ⟨p, ep, hp⟩ := HBR.out x (List.mem_of_getElem? HX2.out)
          subst ep
          obtain ⟨bn, offn, x1, x2, x3, x4, eN, HY, n1, n2, n3, n4⟩ := (hN.on BW).at hp
          subst eN
          have z0c0 := (z0.on BW).2 0 _ rfl
          have HK : Hid (kindAt N p = x1) := Lib.hid (by unfold kindAt; rw [HY.out])
          obtain ⟨R, hR⟩ := comes_split HX.out HX2.out
          have HSP := Lib.hid hR
          clear hR n2 n3 n4
          by_cases h1 : x1 = 1
          · have e1 : (x1 != 1) = false := by simp [h1]
            have oc := ho.cells_at hp
            have of := ho.free p
            obtain ⟨u, hu⟩ : ∃ u, decide ((p : Int) ∈ comesS (L.take j) ++ bs.take l) = u := ⟨_, rfl⟩
            rw [hu] at oc
            cases u
            · have HT := Lib.hid (HF2.out.snoc (HK.out.trans h1) hu)
              have ho3 := ho.put p (.bool true)
              rw [seen_set hp] at ho3
              have BW3 := BW.setCell (p := ⟨g, p, none⟩) (by show w0.heap.size ≤ g; omega) (.bool true)
              go_wp2_with fail
              go_roundw
              case rel =>
                refine ⟨l + 1, by omega, by go_num, ?_, ?_, BW3⟩
                · rw [List.take_add_one, HX2.out, ← List.append_assoc]; exact HT.out
                · rw [List.take_add_one, HX2.out, ← List.append_assoc]; exact ho3
              case measure => simp [intOf]; omega
            · have HE := Lib.hid (fed_twice HSP.out (by rw [HLN.out]; exact hp) hu)
              go_wp2_with fail
              go_ret
              exact ⟨ret_bool (by rw [← HV.out, HE.out]), Below.step B0 BW⟩
          · have e1 : (x1 != 1) = true := by simp [h1]
            have HE := Lib.hid (fed_kind HSP.out (by rw [HLN.out]; exact hp) (by rw [HK.out]; exact h1))
            go_wp2_with fail
            go_ret
            exact ⟨ret_bool (by rw [← HV.out, HE.out]), Below.step B0 BW⟩
        · have e : bs.take l = bs := List.take_of_length_le (by rw [hi0.1]; omega)
          rw [e, ← comes_take HX.out] at ho
          have HT : Hid (Fdp N (comesS (L.take (j + 1)))) := by
            have := HF2.out
            rw [e, ← comes_take HX.out] at this
            exact Lib.hid this
          go_wp2_with fail
          go_roundw
          case rel => exact ⟨j + 1, by omega, by go_num, HT.out, ho, BW⟩
          case measure => simp [intOf]; omega
    · have e : L.take j = L := List.take_of_length_le (by rw [hL.1]; omega)
      rw [e] at ho
      have HT : Hid (Fdp N (comesS L)) := by
        have := HF.out
        rw [e] at this
        exact Lib.hid this
      have z0c0 := (z0.on BW).2 0 _ rfl
      go_wp2_with fail
      obtain ⟨wo, rfl⟩ : ∃ x, x = wr := ⟨_, rfl⟩
      go_loopw [49] (fun i wr => ∃ l : Nat, l ≤ nn ∧ i = .int .i64 l ∧ (∀ i < l, kindAt N i = 1 → decide ((i : Int) ∈ comesS L) = true) ∧ Below wo.heap.size wo wr) (fun i _ => nn - (intOf i).toNat)
      case atStart => exact ⟨0, Nat.zero_le _, rfl, fun i hi => absurd hi (by omega), Below.refl _ _⟩
      case round =>
        clear z0c0
        obtain ⟨l, hl, rfl, hk, BR⟩ := hrel
        have HK2 := Lib.hid hk
        clear hk
        have ho2 := Own.below ho BR ho.lt
        have BW2 := Below.step BW BR
        by_cases hlm : l < nn
        · obtain ⟨bn, offn, x1, x2, x3, x4, eN, HY, n1, n2, n3, n4⟩ := (hN.on BW2).at hlm
          subst eN
          have HK : Hid (kindAt N l = x1) := Lib.hid (by unfold kindAt; rw [HY.out])
          go_upto_region 16 with fail
          clear n1 n2 n3 n4
          obtain ⟨w3, e_w3⟩ : ∃ w', wr.alloc (.cells #[.int .i64 x1, .int .i64 x2, .int .i64 x3, .int .i64 x4] 43) = w' := ⟨_, rfl⟩
          have z1 : Bx w3 wr.heap.size [.int .i64 x1, .int .i64 x2, .int .i64 x3, .int .i64 x4] := e_w3 ▸ Bx.made_k wr rfl #[.int .i64 x1, .int .i64 x2, .int .i64 x3, .int .i64 x4] 43
          have b3 : Below wr.heap.size wr w3 := e_w3 ▸ below_lit _ _
          rw [e_w3]
          clear e_w3
          have ho3 := Own.below ho2 b3 ho2.lt
          have oc := ho3.cells_at hlm
          have z1c0 := z1.2 0 _ rfl
          replace BR := Below.step BR b3
          by_cases h1 : x1 = 1
          · have e1 : (x1 == 1) = true := by simp [h1]
            obtain ⟨u, hu⟩ : ∃ u, decide ((l : Int) ∈ comesS L) = u := ⟨_, rfl⟩
            rw [hu] at oc
            cases u
            · have HE := Lib.hid (fed_none (by rw [HLN.out]; exact hlm) (HK.out.trans h1) hu)
              go_wp2_with fail
              go_ret
              exact ⟨ret_bool (by rw [← HV.out, HE.out]), Below.step B0 (Below.step BW BR)⟩
            · have HT2 : Hid (∀ i < l + 1, kindAt N i = 1 → decide ((i : Int) ∈ comesS L) = true) := Lib.hid fun i hi hk => by
                by_cases e : i = l
                · rw [e]; exact hu
                · exact HK2.out i (by omega) hk
              go_wp2_with fail
              go_roundw
              case rel => exact ⟨l + 1, by omega, by go_num, HT2.out, BR⟩
              case measure => simp [intOf]; omega
          · have e1 : (x1 == 1) = false := by simp [h1]
            have HT2 : Hid (∀ i < l + 1, kindAt N i = 1 → decide ((i : Int) ∈ comesS L) = true) := Lib.hid fun i hi hk => by
              by_cases e : i = l
              · exact absurd (by rw [e] at hk; exact HK.out.symm.trans hk) h1
              · exact HK2.out i (by omega) hk
            go_wp2_with fail
            go_roundw
            case rel => exact ⟨l + 1, by omega, by go_num, HT2.out, BR⟩
            case measure => simp [intOf]; omega
        · have HE := Lib.hid (fed_ok HT.out fun i hi hk => HK2.out i (by rw [HLN.out] at hi; omega) hk)
          go_wp2_with fail
          go_ret
          exact ⟨ret_bool (by rw [← HV.out, HE.out]), Below.step B0 (Below.step BW BR)⟩
end Go.Proofs.Ytcehklnonhalhaa
