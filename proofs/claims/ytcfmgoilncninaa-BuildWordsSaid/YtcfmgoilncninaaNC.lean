/-
  The reference's cut, Bit, Zeros, Full, Cmp: what only reads bits.
  The reference's Zeros, Full, Cmp.
  The reference's Word, Of: lists of bits that grow.
  The reference's Parts, Add, Sub.
  The reference's Sub, Left, Right.
-/
import Derived.Test.YtcfmgoilncninaaNB
import Derived.Test.YtcfmgoilncninaaMA
import Derived.Test.YtcfmgoilncninaaNA
namespace Go.Proofs.Ytcfmgoilncninaa
open Go.RowKit
set_option linter.unusedVariables false

/-- bits as cells. -/
def Bo (bs : List Bool) : List Value := bs.map Value.bool
theorem Bo_len (bs : List Bool) : (Bo bs).length = bs.length := by simp [Bo]
theorem Bo_at (bs : List Bool) (i : Nat) : (Bo bs)[i]? = (bs[i]?).map Value.bool := by simp [Bo]
theorem Bo_take (bs : List Bool) (m : Nat) : (Bo bs).take m = Bo (bs.take m) := by simp [Bo, List.map_take]
theorem Bo_drop (bs : List Bool) (m : Nat) : (Bo bs).drop m = Bo (bs.drop m) := by simp [Bo, List.map_drop]
theorem Bo_snoc (bs : List Bool) (b : Bool) : Bo bs ++ [Value.bool b] = Bo (bs ++ [b]) := by simp [Bo]

/-- where something is read, the slice at A lies in a block of elements of type t. -/
def Tg (w : World) (A : Option Addr) (n : Nat) (t : TypeId) : Prop := 0 < n → ∃ b off cs f, A = some ⟨b, off, none⟩ ∧ w.heap[b]? = some (.cells cs t f)
theorem Tg.nil_ {w : World} {A : Option Addr} {t : TypeId} : Tg w A 0 t := fun h => by omega
theorem Tg.on {w w' : World} {A : Option Addr} {n : Nat} {t : TypeId} (h : Tg w A n t) (hb : Below w.heap.size w w') : Tg w' A n t := fun h0 => by
  obtain ⟨b, off, cs, f, e, hc⟩ := h h0
  exact ⟨b, off, cs, f, e, (hb.block b (Array.getElem?_eq_some_iff.1 hc).1).trans hc⟩
theorem Tg.less {w : World} {A : Option Addr} {n m : Nat} {t : TypeId} (h : Tg w A n t) (hm : m ≤ n) : Tg w A m t := fun h0 => h (by omega)
theorem Tg.put {w : World} {A : Option Addr} {n : Nat} {t : TypeId} (h : Tg w A n t) (g i : Nat) (v : Value) : Tg (w.setCell ⟨g, i, none⟩ v) A n t := fun h0 => by
  obtain ⟨b, off, cs, f, e, hc⟩ := h h0
  by_cases hp : g = b
  · refine ⟨b, off, cs.setIfInBounds i v, f, e, ?_⟩
    subst hp
    simp [World.setCell, Array.getElem?_modify, hc]
  · refine ⟨b, off, cs, f, e, ?_⟩
    simp [World.setCell, Array.getElem?_modify, hp, hc]

/-- the slice at A reads as the bits bs; they lie in a block of bits. -/
def BS (w : World) (A : Option Addr) (n : Nat) (bs : List Bool) : Prop := Sl w w.heap.size A n (Bo bs) ∧ Tg w A n 4
theorem BS.nil_ {w : World} {A : Option Addr} : BS w A 0 [] := ⟨Sl.nil_, Tg.nil_⟩
theorem BS.len {w : World} {A : Option Addr} {n : Nat} {bs : List Bool} (h : BS w A n bs) : bs.length = n := by rw [← Bo_len]; exact h.1.1
theorem BS.on {w w' : World} {A : Option Addr} {n : Nat} {bs : List Bool} (h : BS w A n bs) (hb : Below w.heap.size w w') : BS w' A n bs := ⟨(Sl.below h.1 hb).more hb.size, h.2.on hb⟩
theorem BS.take {w : World} {A : Option Addr} {n : Nat} {bs : List Bool} (h : BS w A n bs) {m : Nat} (hm : m ≤ n) : BS w A m (bs.take m) := by
  have := Sl.take h.1 hm
  rw [Bo_take] at this
  exact ⟨this, h.2.less hm⟩
theorem BS.look {w : World} {A : Option Addr} {n k : Nat} {bs : List Bool} (h : BS w A n bs) (hk : k < n) : ∃ b off x, A = some ⟨b, off, none⟩ ∧ b < w.heap.size ∧ Hid (bs.getD k false = x) ∧ w.cell? ⟨b, off + k, none⟩ = some (.bool x) := by
  obtain ⟨b, off, u, e, hb, hu, hc⟩ := Sl.look h.1 hk
  have hl : k < bs.length := by have := h.len; omega
  rw [Bo_at, List.getElem?_eq_getElem hl] at hu
  simp at hu
  subst hu
  refine ⟨b, off, bs[k], e, hb, ?_, hc⟩
  show _ = _
  rw [List.getD_eq_getElem?_getD, List.getElem?_eq_getElem hl]; rfl

/-- the slice at A tells the number x by bits, none 0 at the end. -/
def BR (w : World) (A : Option Addr) (n c x : Nat) : Prop := ∃ bs, BS w A n bs ∧ n ≤ c ∧ c ≤ maxLen ∧ BC bs ∧ bval bs = x
theorem BR.on {w w' : World} {A : Option Addr} {n c x : Nat} (h : BR w A n c x) (hb : Below w.heap.size w w') : BR w' A n c x := by
  obtain ⟨bs, h1, h2⟩ := h
  exact ⟨bs, h1.on hb, h2⟩
theorem BR.size {w : World} {A : Option Addr} {n c x : Nat} (h : BR w A n c x) : n = blen x := by
  obtain ⟨bs, h1, h2, h3, h4, h5⟩ := h
  rw [← h1.len, ← h5]; exact h4
theorem BR.cap {w : World} {A : Option Addr} {n c x : Nat} (h : BR w A n c x) : n ≤ c ∧ c ≤ maxLen := by
  obtain ⟨bs, h1, h2, h3, h4, h5⟩ := h
  exact ⟨h2, h3⟩

def BCutPost (w : World) (A : Option Addr) (n c : Nat) (bs : List Bool) (e : Ending) (w' : World) : Prop :=
  ∃ m, m ≤ n ∧ BCutAt bs m ∧ e = .returned (.slice A m c) ∧ w = w'
set_option maxHeartbeats 400000 in
theorem rcut_any (A : Option Addr) (n c : Nat) (bs : List Bool) (w : World) (h : BS w A n bs) (hnc : n ≤ c) (hc : c ≤ maxLen) :
    Calls Try.prog 98 #[.slice A n c] w (BCutPost w A n c bs) := by
  unfold maxLen at hc
  have HL := Lib.hid h.len
  go_enter Try.func98, Try.ntmps98
  go_wp2
  go_loop [3] (fun t => ∃ m : Nat, m ≤ n ∧ (∀ j, m ≤ j → bs.getD j false = false) ∧ t = .int .i64 m) (fun t => (intOf t).toNat)
  case atStart => exact ⟨n, Nat.le_refl _, fun j hj => bgetD_ge HL.out hj, rfl⟩
  case round =>
    obtain ⟨m, hm, hz, rfl⟩ := hrel
    have HZ := Lib.hid hz
    clear hz
    by_cases h0 : m = 0
    · subst h0
      go_wp2
      go_ret
      exact ⟨0, by omega, ⟨HZ.out, by omega⟩, rfl, rfl⟩
    · obtain ⟨b, off, x, rfl, hb, HX, hcell⟩ := h.look (k := m - 1) (by omega)
      cases x
      · go_wp2
        go_round
        case rel =>
          refine ⟨m - 1, by omega, fun j hj => ?_, by go_num⟩
          by_cases e : j = m - 1
          · rw [e]; exact HX.out
          · exact HZ.out j (by omega)
        case measure => simp [intOf]; omega
      · go_wp2
        go_ret
        exact ⟨m, hm, ⟨HZ.out, fun _ => HX.out⟩, rfl, rfl⟩
def BCutN (w : World) (A : Option Addr) (n c x : Nat) (e : Ending) (w' : World) : Prop := ∃ m, e = .returned (.slice A m c) ∧ BR w A m c x ∧ m ≤ n ∧ w = w'
theorem rcutN {A : Option Addr} {n c x : Nat} {bs : List Bool} {w : World} (h : BS w A n bs) (hnc : n ≤ c) (hc : c ≤ maxLen) (hx : bval bs = x) :
    Calls Try.prog 98 #[.slice A n c] w (BCutN w A n c x) := by
  refine (rcut_any A n c bs w h hnc hc).mono ?_
  rintro e w' ⟨m, hm, hc', rfl, rfl⟩
  obtain ⟨c1, c2⟩ := bcut_val (by rw [h.len]; exact hm) hc'
  exact ⟨m, rfl, ⟨bs.take m, h.take hm, by omega, hc, c1, by rw [c2, hx]⟩, hm, rfl⟩

/-- the bit of a place, any place. -/
def bitAt (bs : List Bool) (i : Int) : Bool := if i < 0 then false else bs.getD i.toNat false
theorem rbit_any {A : Option Addr} {n c : Nat} {bs : List Bool} {w : World} (h : BS w A n bs) (hn : n ≤ 9223372036854775807) (i : Int) (b : Bool) (hb : Hid (bitAt bs i = b)) :
    Calls Try.prog 68 #[.slice A n c, .int .i64 i] w fun e w' => e = .returned (.bool b) ∧ w = w' := by
  have HL := Lib.hid h.len
  by_cases h0 : i < 0
  · have hbb : b = false := by rw [← hb.out]; unfold bitAt; rw [if_pos h0]
    subst hbb
    have d1 : decide (0 ≤ i) = false := decide_eq_false (by omega)
    go_enter Try.func68, Try.ntmps68
    go_wp2
    go_ret
    exact ⟨rfl, rfl⟩
  · obtain ⟨k, rfl⟩ := Int.eq_ofNat_of_zero_le (show 0 ≤ i by omega)
    have hbb : bs.getD k false = b := by rw [← hb.out]; unfold bitAt; rw [if_neg h0, Int.toNat_natCast]
    have d1 : decide (0 ≤ (k : Int)) = true := decide_eq_true (by omega)
    by_cases hk : k < n
    · obtain ⟨b', off, x, rfl, hb', HX, hcell⟩ := h.look hk
      rw [HX.out] at hbb
      subst hbb
      have d2 : decide ((k : Int) < (n : Int)) = true := decide_eq_true (by omega)
      go_enter Try.func68, Try.ntmps68
      go_wp2
      go_ret
      exact ⟨rfl, rfl⟩
    · rw [bgetD_ge HL.out (by omega)] at hbb
      subst hbb
      have d2 : decide ((k : Int) < (n : Int)) = false := decide_eq_false (by omega)
      go_enter Try.func68, Try.ntmps68
      go_wp2
      go_ret
      exact ⟨rfl, rfl⟩
end Go.Proofs.Ytcfmgoilncninaa

namespace Go.Proofs.Ytcfmgoilncninaa
open Go.RowKit
set_option linter.unusedVariables false

theorem bctz {bs : List Bool} {k : Nat} (hz : ∀ j, j < k → bs.getD j false = false) (hk : bs.getD k false = true) : Ctz (bval bs) k := by
  have hl : k < bs.length := by
    rcases Nat.lt_or_ge k bs.length with h | h
    · exact h
    · rw [bgetD_ge rfl h] at hk; cases hk
  have e0 : bval bs % 2 ^ k = 0 := by
    rw [bval_mod]
    refine bval_eq_zero _ (fun j => ?_)
    by_cases hj : j < k
    · rw [List.getD_eq_getElem?_getD, List.getElem?_take, if_pos hj, ← List.getD_eq_getElem?_getD]; exact hz j hj
    · exact bgetD_ge rfl (by rw [List.length_take]; omega)
  have h1 := bval_bit bs k true hk
  simp only [Bool.toNat_true] at h1
  have h2 := Nat.div_add_mod (bval bs) (2 ^ k)
  rw [e0] at h2
  refine ⟨?_, bval bs / 2 ^ k / 2, ?_⟩
  · intro e; rw [e] at h1; simp at h1
  · rw [← h2]
    rw [Nat.add_zero, Nat.mul_div_cancel_left _ (Nat.two_pow_pos k)]
    congr 1
    omega

theorem bitAt_nat (bs : List Bool) (k : Nat) : bitAt bs (k : Int) = bs.getD k false := by
  unfold bitAt
  rw [if_neg (by omega), Int.toNat_natCast]

set_option maxHeartbeats 400000 in
theorem rcmp_any {A1 A2 : Option Addr} {n1 c1 n2 c2 x y : Nat} {w : World} (h1 : BR w A1 n1 c1 x) (h2 : BR w A2 n2 c2 y) (s1 : n1 ≤ 1000000) (s2 : n2 ≤ 1000000) :
    Calls Try.prog 69 #[.slice A1 n1 c1, .slice A2 n2 c2] w fun e w' => e = .returned (.int .i64 (cmpI x y)) ∧ w = w' := by
  obtain ⟨as_, r1, _, _, _, v1⟩ := h1
  obtain ⟨bs, r2, _, _, _, v2⟩ := h2
  have V1 := Lib.hid v1
  have V2 := Lib.hid v2
  have L1 := Lib.hid r1.len
  have L2 := Lib.hid r2.len
  clear v1 v2
  go_enter Try.func69, Try.ntmps69
  go_wp2_with fail
  obtain ⟨M, eM⟩ : ∃ M : Nat, max (n1 : Int) (n2 : Int) = (M : Int) := ⟨max n1 n2, by omega⟩
  have hM1 : n1 ≤ M := by omega
  have hM2 : n2 ≤ M := by omega
  have hM3 : M ≤ 1000000 := by omega
  rw [eM]
  clear eM
  go_loop [5] (fun i => ∃ k : Nat, k ≤ M ∧ x / 2 ^ k = y / 2 ^ k ∧ i = .int .i64 ((k : Int) - 1)) (fun i => (intOf i + 1).toNat)
  case atStart =>
    refine ⟨M, Nat.le_refl _, ?_, rfl⟩
    have h1 := bval_lt as_
    have h2 := bval_lt bs
    rw [V1.out, L1.out] at h1
    rw [V2.out, L2.out] at h2
    have h3 : 2 ^ n1 ≤ 2 ^ M := Nat.pow_le_pow_right (by omega) hM1
    have h4 : 2 ^ n2 ≤ 2 ^ M := Nat.pow_le_pow_right (by omega) hM2
    rw [Nat.div_eq_of_lt (by omega), Nat.div_eq_of_lt (by omega)]
  case round =>
    obtain ⟨k, hk, he, rfl⟩ := hrel
    have HE := Lib.hid he
    clear he
    by_cases h0 : k = 0
    · subst h0
      go_wp2_with fail
      go_ret
      have := HE.out
      simp only [Nat.pow_zero, Nat.div_one] at this
      exact ⟨by rw [cmpI_of_eq this]; rfl, rfl⟩
    · obtain ⟨q, rfl⟩ : ∃ q, k = q + 1 := ⟨k - 1, by omega⟩
      clear h0
      have e0 : ((q + 1 : Nat) : Int) - 1 = (q : Int) := by omega
      rw [e0]
      clear e0
      have q0 : decide (0 ≤ (q : Int)) = true := decide_eq_true (by omega)
      obtain ⟨a, ea⟩ : ∃ a, as_.getD q false = a := ⟨_, rfl⟩
      obtain ⟨b, eb⟩ : ∃ b, bs.getD q false = b := ⟨_, rfl⟩
      have C1 := Lib.hid (rbit_any (c := c1) r1 (by omega) (q : Int) a (by show _ = _; rw [bitAt_nat, ea]))
      have C2 := Lib.hid (rbit_any (c := c2) r2 (by omega) (q : Int) b (by show _ = _; rw [bitAt_nat, eb]))
      have B1 := Lib.hid (bval_bit as_ q a ea)
      have B2 := Lib.hid (bval_bit bs q b eb)
      rw [V1.out] at B1
      rw [V2.out] at B2
      clear ea eb
      cases a <;> cases b
      · go_wp2_with fail
        refine (C1.out).mono ?_
        rintro e w' ⟨rfl, rfl⟩
        go_wp2_with fail
        refine (C2.out).mono ?_
        rintro e w' ⟨rfl, rfl⟩
        go_wp2_with fail
        go_round
        case rel => exact ⟨q, by omega, by rw [div_two x q, div_two y q, HE.out, B1.out, B2.out], rfl⟩
        case measure => simp [intOf]
      · go_wp2_with fail
        refine (C1.out).mono ?_
        rintro e w' ⟨rfl, rfl⟩
        go_wp2_with fail
        refine (C2.out).mono ?_
        rintro e w' ⟨rfl, rfl⟩
        go_wp2_with fail
        go_ret
        exact ⟨by rw [cmpI_of_lt (cmp_bit HE.out B1.out B2.out)]; rfl, rfl⟩
      · go_wp2_with fail
        refine (C1.out).mono ?_
        rintro e w' ⟨rfl, rfl⟩
        go_wp2_with fail
        refine (C2.out).mono ?_
        rintro e w' ⟨rfl, rfl⟩
        go_wp2_with fail
        go_ret
        exact ⟨by rw [cmpI_of_gt (cmp_bit HE.out.symm B2.out B1.out)]; rfl, rfl⟩
      · go_wp2_with fail
        refine (C1.out).mono ?_
        rintro e w' ⟨rfl, rfl⟩
        go_wp2_with fail
        refine (C2.out).mono ?_
        rintro e w' ⟨rfl, rfl⟩
        go_wp2_with fail
        go_round
        case rel => exact ⟨q, by omega, by rw [div_two x q, div_two y q, HE.out, B1.out, B2.out], rfl⟩
        case measure => simp [intOf]
end Go.Proofs.Ytcfmgoilncninaa

namespace Go.Proofs.Ytcfmgoilncninaa
open Go.RowKit
set_option linter.unusedVariables false

/-- the slice value v is the call's own (or nil) and holds the cells xs. -/
def Grow (w : World) (base : Nat) (t : TypeId) (v : Value) (xs : List Value) : Prop := w.ownsRow base t 1 v xs.length xs

theorem Grow.form {w : World} {base : Nat} {t : TypeId} {v : Value} {xs : List Value} (h : Grow w base t v xs) : ∃ A c, v = .slice A xs.length c ∧ Sl w w.heap.size A xs.length xs ∧ xs.length ≤ c ∧ c ≤ maxLen := by
  rcases h.2 with ⟨rfl, hn⟩ | ⟨g, cap, cur, rfl, hb, hg, h1, h2, h3, h4⟩
  · have : xs = [] := List.eq_nil_of_length_eq_zero hn
    subst this
    exact ⟨none, 0, rfl, Sl.nil_, Nat.le_refl _, by unfold maxLen; omega⟩
  · refine ⟨some ⟨g, 0, none⟩, cap, rfl, ⟨rfl, fun i u hu => ⟨g, 0, rfl, (Array.getElem?_eq_some_iff.1 hg).1, ?_⟩⟩, h1, h2⟩
    rw [Nat.zero_add, cell_of_row w g i cur t (0, 0) hg]
    rw [← h4, List.getElem?_take] at hu
    split at hu
    · simpa using hu
    · cases hu
theorem Grow.tag {w : World} {base n c : Nat} {t : TypeId} {A : Option Addr} {xs : List Value} (h : Grow w base t (.slice A n c) xs) : Tg w A n t := fun h0 => by
  rcases h.2 with ⟨hv, hn⟩ | ⟨g, cap, cur, hv, hb, hg, h1, h2, h3, h4⟩
  · injection hv with _ e; omega
  · injection hv with e
    exact ⟨g, 0, cur, _, e, hg⟩
theorem Grow.bits {w : World} {base : Nat} {v : Value} {bs : List Bool} (h : Grow w base 4 v (Bo bs)) : ∃ A c, v = .slice A (Bo bs).length c ∧ BS w A (Bo bs).length bs ∧ (Bo bs).length ≤ c ∧ c ≤ maxLen := by
  obtain ⟨A, c, hv, hs, h1, h2⟩ := h.form
  subst hv
  exact ⟨A, c, rfl, ⟨hs, h.tag⟩, h1, h2⟩
theorem Grow.made (w : World) {base : Nat} (t : TypeId) (hb : base ≤ w.heap.size) : Grow (w.alloc (.cells #[] t)) base t (.slice (some ⟨w.heap.size, 0, none⟩) 0 0) [] :=
  World.ownsRow_lit w #[] 0 hb (by unfold maxLen; omega) rfl

/-- append(out, x), one element of one cell. -/
theorem wpList_push {P : Program} (w : World) {ops : Array Oper} {rest : List Oper} {o : Oper} {a : Act} {Q : Exit → Act → World → Prop} (hgd : o.guard = none) (s x : Operand) (t : TypeId)
    (ho : o.op = .call { callee := .builtin .append, args := #[s, x], argTypes := #[t, t] })
    (base : Nat) (e : TypeId) (z : Value) (by_ : Nat) (ht : P.underlying t = some (.slice e)) (h2 : (P.info? e).map (fun i => (i.zero, i.size, i.bytes)) = some (some z, 1, by_)) (hz : z.cells.size = 1) (hby : by_ ≤ 64)
    (v : Value) (xs : List Value) (hs : a.eval s = v) (hown : Grow w base e v xs) (u : Value) (hu : u.oneCell' = true) (hx : a.eval x = .slice (some ⟨w.heap.size, 0, none⟩) 1 1)
    (hlen : xs.length ≤ 3000000) (hbase : base ≤ w.heap.size)
    (h : ∀ v' w', Grow w' base e v' (xs ++ [u]) → Below base w w' → wpList P ops Q rest (a.put o.dst v') w') : wpList P ops Q (o :: rest) a (w.alloc (.cells #[u] e)) := by
  obtain ⟨i, hi, i1, i2, i3⟩ := info_parts h2
  refine wpList_append_own _ hgd s x t ho base e i z 1 by_ ht hi i1 i2 i3 hz (by omega) v xs.length xs hs (World.ownsRow.alloc hown _) ⟨w.heap.size, 0, none⟩ 1 1 [u] hx rfl ?_ ?_ ?_ ?_ ?_ ?_
  · intro j u' hj
    match j, hj with
    | 0, hj =>
      simp at hj
      subst hj
      simp [Addr.add]
  · intro u' hu'
    simp at hu'
    subst hu'
    exact hu
  · unfold maxLen; omega
  · have : (xs.length + 1) * by_ ≤ 3000001 * 64 := Nat.mul_le_mul (by omega) hby
    omega
  · simp; omega
  · intro v' w' hown' hg _
    refine h v' w' ?_ ?_
    · unfold Grow
      rw [List.length_append]
      exact hown'
    · refine (Below.refl base w).alloc hbase _ |>.grown hg (by simp; omega) (fun k hk => ?_)
      exact (World.ownsRow.lt hown k hk).1

theorem bool_info : (Try.prog.info? 4).map (fun i => (i.zero, i.size, i.bytes)) = some (some (.bool false), 1, 1) := by kernel_rfl

/-- a function that answers bits. -/
def BitsPost (w : World) (x : Nat) (e : Ending) (w' : World) : Prop := ∃ A n c, e = .returned (.slice A n c) ∧ BR w' A n c x ∧ Below w.heap.size w w'

theorem bit_odd (n : Nat) : (((n : Int) % 2) == 1) = decide (n % 2 = 1) := by
  rw [Bool.eq_iff_iff]; simp; omega

set_option maxHeartbeats 1000000 in
theorem rword_any (n0 : Nat) (hn0 : n0 < 18446744073709551616) (w : World) :
    Calls Try.prog 71 #[.int .u64 n0] w (BitsPost w n0) := by
  go_enter Try.func71, Try.ntmps71
  go_wp2_with fail
  go_loopw [0, 3] (fun t v wr => ∃ (k n : Nat) (bs : List Bool), k ≤ 64 ∧ n = n0 / 2 ^ k ∧ t = .int .u64 n ∧ bs.length = k ∧ bval bs = n0 % 2 ^ k ∧ (0 < k → 2 ^ (k - 1) ≤ n0) ∧ Grow wr w.heap.size 4 v (Bo bs) ∧ Below w.heap.size w wr) (fun t _ _ => (intOf t).toNat)
  case atStart => exact ⟨0, n0, [], by omega, by simp, rfl, rfl, by simp [bval, Nat.mod_one], by omega, Grow.made w _ (Nat.le_refl _), (Below.refl _ _).alloc (Nat.le_refl _) _⟩
  case round =>
    obtain ⟨k, n, bs, hk, hn, rfl, hl, hs, h2, hgr, hb⟩ := hrel
    have HN := Lib.hid hn
    have HL := Lib.hid hl
    have HS := Lib.hid hs
    have H2 := Lib.hid h2
    have HG := Lib.hid hgr
    have hsz := hb.size
    clear hn hl hs h2 hgr
    have hnl : n < 18446744073709551616 := by rw [HN.out]; exact Nat.lt_of_le_of_lt (Nat.div_le_self _ _) hn0
    by_cases h0 : n = 0
    · subst h0
      go_wp2_with fail
      obtain ⟨A, c, hv, hsl, hc1, hc2⟩ := HG.out.bits
      rw [hv]
      go_ret
      have hx : n0 < 2 ^ k := by
        have := HN.out
        rcases Nat.lt_or_ge n0 (2 ^ k) with h | h
        · exact h
        · have := Nat.div_pos h (Nat.two_pow_pos k); omega
      have hs := HS.out
      rw [Nat.mod_eq_of_lt hx] at hs
      refine ⟨A, _, c, rfl, ⟨bs, hsl, hc1, hc2, BC.of_low (fun hp => ?_), hs⟩, hb⟩
      rw [HL.out] at hp ⊢
      rw [hs]
      exact H2.out hp
    · have hp : (0 : Int) < (n : Int) := by omega
      have hk64 : k < 64 := by
        rcases Nat.lt_or_ge k 64 with h | h
        · exact h
        · have h1 : k = 64 := by omega
          have := HN.out
          rw [h1, Nat.div_eq_of_lt (by omega)] at this
          exact (h0 this).elim
      go_wp2_with (at_builtin; refine wpList_push _ rfl _ _ 40 rfl w.heap.size 4 (.bool false) 1 Try.underlying40 bool_info rfl (by omega) _ _ rfl HG.out _ rfl rfl (by rw [Bo_len, HL.out]; omega) hsz ?_; intro v' w1 hg1 hb1)
      go_roundw
      case rel =>
        have hn := HN.out
        refine ⟨k + 1, n / 2, bs ++ [decide (n % 2 = 1)], by omega, by rw [div_succ, ← hn], by go_num, by rw [List.length_append, HL.out]; rfl, ?_, fun _ => ?_, ?_, hb.trans hb1⟩
        · rw [bval_snoc, HS.out, HL.out, mod_succ, ← hn, decide_toNat]
        · simp only [Nat.add_sub_cancel]
          rcases Nat.lt_or_ge n0 (2 ^ k) with h | h
          · rw [Nat.div_eq_of_lt h] at hn; exact (h0 hn).elim
          · exact h
        · rw [← Bo_snoc, ← bit_odd]; exact hg1
      case measure => simp [intOf]; omega

set_option maxHeartbeats 1000000 in
theorem rof_any {A : Option Addr} {n c : Nat} {xs : List Nat} {w : World} (h : NR w w.heap.size A n xs) (hn : n ≤ 30000) :
    Calls Try.prog 24 #[.slice A n c] w (BitsPost w (val xs)) := by
  have HNL := Lib.hid h.len
  go_enter Try.func24, Try.ntmps24
  go_wp2_with fail
  go_loopw [3, 4] (fun v iv wr => ∃ (i : Nat) (bs : List Bool), i ≤ n ∧ iv = .int .i64 i ∧ bs.length = 32 * i ∧ bval bs = val (xs.take i) ∧ Grow wr w.heap.size 4 v (Bo bs) ∧ Below w.heap.size w wr) (fun _ iv _ => n - (intOf iv).toNat)
  case atStart => exact ⟨0, [], by omega, rfl, rfl, by simp [bval, val], Grow.made w _ (Nat.le_refl _), (Below.refl _ _).alloc (Nat.le_refl _) _⟩
  case round =>
    obtain ⟨i, bs, hi, rfl, hl, hs, hgr, hb⟩ := hrel
    have HL := Lib.hid hl
    have HS := Lib.hid hs
    have HG := Lib.hid hgr
    clear hl hs hgr
    by_cases hlt : i < n
    · obtain ⟨b, off, x, hA, hbb, HX, hlx, hcell⟩ := (h.below hb).look hlt
      subst hA
      go_wp2_with fail
      obtain ⟨wo, rfl⟩ : ∃ wo : World, wo = wr := ⟨_, rfl⟩
      go_loopw [3, 5, 6] (fun v t kv wr => ∃ (k y : Nat) (bs : List Bool), k ≤ 32 ∧ kv = .int .i64 k ∧ y = x / 2 ^ k ∧ t = .int .u32 y ∧ OfInv xs bs i k x ∧ Grow wr w.heap.size 4 v (Bo bs) ∧ Below w.heap.size w wr) (fun _ _ kv _ => 32 - (intOf kv).toNat)
      case atStart => exact ⟨0, x, bs, by omega, rfl, by simp, rfl, OfInv.zero xs i x bs HL.out HS.out, HG.out, hb⟩
      case round =>
        obtain ⟨k, y, cs, hk, rfl, hy, rfl, hinv, hgr, hb2⟩ := hrel
        have HY := Lib.hid hy
        have HI := Lib.hid hinv
        have HG2 := Lib.hid hgr
        have hsz := hb2.size
        have hyl : y < 4294967296 := by rw [hy]; exact Nat.lt_of_le_of_lt (Nat.div_le_self _ _) hlx
        clear hy hinv hgr
        by_cases hk32 : k < 32
        · go_wp2_with (at_builtin; refine wpList_push _ rfl _ _ 40 rfl w.heap.size 4 (.bool false) 1 Try.underlying40 bool_info rfl (by omega) _ _ rfl HG2.out _ rfl rfl (by rw [Bo_len, HI.out.len]; omega) hsz ?_; intro v' w1 hg1 hb1)
          go_roundw
          case rel =>
            refine ⟨k + 1, y / 2, cs ++ [decide (y % 2 = 1)], by omega, by go_num, by rw [div_succ, ← HY.out], by go_num, HI.out.step _ (by rw [decide_toNat, HY.out]), ?_, hb2.trans hb1⟩
            rw [← Bo_snoc, ← bit_odd]; exact hg1
          case measure => simp [intOf]; omega
        · obtain rfl : k = 32 := by omega
          go_wp2_with fail
          go_roundw
          case rel =>
            obtain ⟨l1, l2⟩ := HI.out.last HX.out hlx
            exact ⟨i + 1, cs, by omega, by go_num, l1, l2, HG2.out, hb2⟩
          case measure => simp [intOf]; omega
    · obtain rfl : i = n := by omega
      go_wp2_with fail
      obtain ⟨A', c', hv, hsl, hc1, hc2⟩ := HG.out.bits
      rw [hv]
      have hs := HS.out
      rw [List.take_of_length_le (by rw [HNL.out]; omega)] at hs
      refine (rcutN (bs := bs) hsl hc1 hc2 hs).mono ?_
      rintro e w' ⟨m, rfl, hr, hm, rfl⟩
      clear hv
      go_wp2_with fail
      go_ret
      exact ⟨_, m, _, rfl, hr, hb⟩
end Go.Proofs.Ytcfmgoilncninaa

namespace Go.Proofs.Ytcfmgoilncninaa
open Go.RowKit
set_option linter.unusedVariables false

theorem U_snoc (ds : List Nat) (x : Nat) : U ds ++ [Value.int .u32 (x : Int)] = U (ds ++ [x]) := by simp [U]

def PartsPost (w : World) (x : Nat) (e : Ending) (w' : World) : Prop := ∃ A n c, e = .returned (.slice A n c) ∧ Res w' A n x ∧ n ≤ blen x / 32 + 1 ∧ Below w.heap.size w w'

set_option maxHeartbeats 1000000 in
theorem rparts_any {A : Option Addr} {n c x : Nat} {w : World} (h : BR w A n c x) (hn : n ≤ 1000000) :
    Calls Try.prog 32 #[.slice A n c] w (PartsPost w x) := by
  have HSZ := Lib.hid h.size
  obtain ⟨bs, hr, _, _, _, hv⟩ := h
  have HV := Lib.hid hv
  have HBL := Lib.hid hr.len
  clear hv
  go_enter Try.func32, Try.ntmps32
  go_wp2_with fail
  go_loopw [3, 4] (fun v iv wr => ∃ (q : Nat) (ds : List Nat), 32 * q < n + 32 ∧ iv = .int .i64 (32 * (q : Int)) ∧ PartsInv x ds q ∧ Grow wr w.heap.size 127 v (U ds) ∧ Below w.heap.size w wr) (fun _ iv _ => n + 64 - (intOf iv).toNat)
  case atStart => exact ⟨0, [], by omega, rfl, PartsInv.zero x, Grow.made w _ (Nat.le_refl _), (Below.refl _ _).alloc (Nat.le_refl _) _⟩
  case round =>
    obtain ⟨q, ds, hq, rfl, hinv, hgr, hb⟩ := hrel
    have HI := Lib.hid hinv
    have HG := Lib.hid hgr
    have hsz := hb.size
    clear hinv hgr
    by_cases hlt : 32 * q < n
    · have hl2 : 32 * (q : Int) < (n : Int) := by omega
      go_wp2_with fail
      obtain ⟨wo, rfl⟩ : ∃ wo : World, wo = wr := ⟨_, rfl⟩
      go_loop [5, 6] (fun t kv => ∃ (k y : Nat), k ≤ 32 ∧ kv = .int .i64 ((k : Int) - 1) ∧ y = Part x q / 2 ^ k ∧ t = .int .u32 y) (fun _ kv => (intOf kv + 1).toNat)
      case atStart => exact ⟨32, 0, by omega, rfl, (Part.top x q).symm, rfl⟩
      case round =>
        obtain ⟨k, y, hk, rfl, hy, rfl⟩ := hrel
        have HY := Lib.hid hy
        have hyl : y < 4294967296 := by rw [hy]; exact Nat.lt_of_le_of_lt (Nat.div_le_self _ _) (Part.lt x q)
        clear hy
        by_cases h0 : k = 0
        · subst h0
          go_wp2_with (at_builtin; refine wpList_push _ rfl _ _ 22 rfl w.heap.size 127 (.int .u32 0) 4 Try.underlying22 u32_info rfl (by omega) _ _ rfl HG.out _ rfl rfl (by rw [U_len, HI.out.len]; omega) hsz ?_; intro v' w1 hg1 hb1)
          go_roundw
          case rel =>
            have hy := HY.out
            rw [Nat.pow_zero, Nat.div_one] at hy
            rw [U_snoc, hy] at hg1
            exact ⟨q + 1, _, by omega, by go_num, HI.out.step, hg1, hb.trans hb1⟩
          case measure => simp [intOf]; omega
        · obtain ⟨j, rfl⟩ : ∃ j, k = j + 1 := ⟨k - 1, by omega⟩
          clear h0
          have e0 : ((j + 1 : Nat) : Int) - 1 = (j : Int) := by omega
          rw [e0]
          clear e0
          have q0 : decide (0 ≤ (j : Int)) = true := decide_eq_true (by omega)
          have hy2 : y < 2147483648 := by
            rw [HY.out, div_succ]
            have := Nat.div_le_self (Part x q) (2 ^ j)
            have := Part.lt x q
            omega
          obtain ⟨b, eb⟩ : ∃ b, bs.getD (32 * q + j) false = b := ⟨_, rfl⟩
          have HC := Lib.hid (rbit_any (c := c) (hr.on hb) (by omega) (32 * (q : Int) + (j : Int)) b (by show _ = _; rw [show 32 * (q : Int) + (j : Int) = ((32 * q + j : Nat) : Int) from by omega, bitAt_nat, eb]))
          have HB := Lib.hid (bval_bit bs (32 * q + j) b eb)
          rw [HV.out, ← Part.bit x q j (by omega)] at HB
          have HD := Lib.hid (div_two (Part x q) j)
          clear eb
          cases b
          · go_wp2_with fail
            refine (HC.out).mono ?_
            rintro e w' ⟨rfl, rfl⟩
            go_wp2_with fail
            go_round
            case rel =>
              refine ⟨j, 2 * y, by omega, rfl, ?_, by go_num⟩
              have h1 := HD.out; have h2 := HB.out; have h3 := HY.out
              simp only [Bool.toNat_false] at h2
              omega
            case measure => simp [intOf]
          · go_wp2_with fail
            refine (HC.out).mono ?_
            rintro e w' ⟨rfl, rfl⟩
            go_wp2_with fail
            go_round
            case rel =>
              refine ⟨j, 2 * y + 1, by omega, rfl, ?_, by go_num⟩
              have h1 := HD.out; have h2 := HB.out; have h3 := HY.out
              simp only [Bool.toNat_true] at h2
              omega
            case measure => simp [intOf]
    · have hl2 : ¬ 32 * (q : Int) < (n : Int) := by omega
      go_wp2_with fail
      obtain ⟨A', c', hv, hsl, hc1, hc2⟩ := HG.out.form
      rw [hv]
      go_ret
      have hb1 := HSZ.out
      obtain ⟨l1, l2⟩ := HI.out.last (by omega) (by omega)
      refine ⟨A', _, c', rfl, ⟨ds, ⟨hsl, l1.1⟩, l1, l2⟩, ?_, hb⟩
      rw [U_len, HI.out.len]
      omega

set_option maxHeartbeats 2000000 in
theorem radd_any {A1 A2 : Option Addr} {n1 c1 n2 c2 x y : Nat} {w : World} (h1 : BR w A1 n1 c1 x) (h2 : BR w A2 n2 c2 y) (s1 : n1 ≤ 1000000) (s2 : n2 ≤ 1000000) :
    Calls Try.prog 48 #[.slice A1 n1 c1, .slice A2 n2 c2] w (BitsPost w (x + y)) := by
  have S1 := Lib.hid h1.size
  have S2 := Lib.hid h2.size
  obtain ⟨xs, r1, _, _, _, v1⟩ := h1
  obtain ⟨ys, r2, _, _, _, v2⟩ := h2
  have V1 := Lib.hid v1
  have V2 := Lib.hid v2
  clear v1 v2
  obtain ⟨M, eM⟩ : ∃ M : Nat, max (n1 : Int) (n2 : Int) = (M : Int) := ⟨max n1 n2, by omega⟩
  have hM1 : n1 ≤ M := by omega
  have hM2 : n2 ≤ M := by omega
  have hM3 : M ≤ 1000000 := by omega
  go_enter Try.func48, Try.ntmps48
  go_wp2_with fail
  go_loopw [5, 6, 7] (fun v cv iv wr => ∃ (k : Nat) (cy : Bool) (bs : List Bool), k ≤ M + 1 ∧ iv = .int .i64 k ∧ cv = .bool cy ∧ BAddInv x y bs k cy ∧ Grow wr w.heap.size 4 v (Bo bs) ∧ Below w.heap.size w wr) (fun _ _ iv _ => M + 1 - (intOf iv).toNat)
  case atStart => exact ⟨0, false, [], by omega, rfl, rfl, BAddInv.zero x y, Grow.made w _ (Nat.le_refl _), (Below.refl _ _).alloc (Nat.le_refl _) _⟩
  case round =>
    obtain ⟨k, cy, bs, hk, rfl, rfl, hinv, hgr, hb⟩ := hrel
    have HI := Lib.hid hinv
    have HG := Lib.hid hgr
    have hsz := hb.size
    clear hinv hgr
    by_cases hlt : k ≤ M
    · obtain ⟨a, ea⟩ : ∃ a, xs.getD k false = a := ⟨_, rfl⟩
      obtain ⟨b, eb⟩ : ∃ b, ys.getD k false = b := ⟨_, rfl⟩
      have C1 := Lib.hid (rbit_any (c := c1) (r1.on hb) (by omega) (k : Int) a (by show _ = _; rw [bitAt_nat, ea]))
      have C2 := Lib.hid (rbit_any (c := c2) (r2.on hb) (by omega) (k : Int) b (by show _ = _; rw [bitAt_nat, eb]))
      have B1 := Lib.hid (bval_bit xs k a ea)
      have B2 := Lib.hid (bval_bit ys k b eb)
      rw [V1.out] at B1
      rw [V2.out] at B2
      clear ea eb
      have hl2 : (k : Int) ≤ (M : Int) := by omega
      cases a <;> cases b <;> cases cy
      all_goals
        go_wp2_with fail
        refine (C1.out).mono ?_
        rintro e w' ⟨rfl, rfl⟩
        go_wp2_with fail
        refine (C2.out).mono ?_
        rintro e w' ⟨rfl, rfl⟩
        go_wp2_with (at_builtin; refine wpList_push _ rfl _ _ 40 rfl w.heap.size 4 (.bool false) 1 Try.underlying40 bool_info rfl (by omega) _ _ rfl HG.out _ rfl rfl (by rw [Bo_len, HI.out.len]; omega) hsz ?_; intro v' w1 hg1 hb1)
        go_roundw
        case rel =>
          rw [Bo_snoc] at hg1
          exact ⟨k + 1, _, _, by omega, by go_num, rfl, HI.out.step _ _ B1.out B2.out, hg1, hb.trans hb1⟩
        case measure => simp [intOf]; omega
    · obtain rfl : k = M + 1 := by omega
      have hl2 : ¬ ((M + 1 : Nat) : Int) ≤ (M : Int) := by omega
      go_wp2_with fail
      obtain ⟨A', c', hv, hsl, hc1, hc2⟩ := HG.out.bits
      rw [hv]
      have hz1 := S1.out
      have hz2 := S2.out
      refine (rcutN (bs := bs) hsl hc1 hc2 (HI.out.last (by omega) (by omega))).mono ?_
      rintro e w' ⟨m, rfl, hr, hm, rfl⟩
      clear hv hz1 hz2
      go_wp2_with fail
      go_ret
      exact ⟨_, m, _, rfl, hr, hb⟩
end Go.Proofs.Ytcfmgoilncninaa

namespace Go.Proofs.Ytcfmgoilncninaa
open Go.RowKit
set_option linter.unusedVariables false

set_option maxHeartbeats 2000000 in
theorem rsub_any {A1 A2 : Option Addr} {n1 c1 n2 c2 x y : Nat} {w : World} (h1 : BR w A1 n1 c1 x) (h2 : BR w A2 n2 c2 y) (s1 : n1 ≤ 1000000) (s2 : n2 ≤ 1000000) (hle : y ≤ x) :
    Calls Try.prog 117 #[.slice A1 n1 c1, .slice A2 n2 c2] w (BitsPost w (x - y)) := by
  have S1 := Lib.hid h1.size
  obtain ⟨xs, r1, _, _, _, v1⟩ := h1
  obtain ⟨ys, r2, _, _, _, v2⟩ := h2
  have V1 := Lib.hid v1
  have V2 := Lib.hid v2
  clear v1 v2
  go_enter Try.func117, Try.ntmps117
  go_wp2_with fail
  go_loopw [5, 6, 7] (fun v cv iv wr => ∃ (k : Nat) (cy : Bool) (bs : List Bool), k ≤ n1 ∧ iv = .int .i64 k ∧ cv = .bool cy ∧ BSubInv x y bs k cy ∧ Grow wr w.heap.size 4 v (Bo bs) ∧ Below w.heap.size w wr) (fun _ _ iv _ => n1 - (intOf iv).toNat)
  case atStart => exact ⟨0, false, [], by omega, rfl, rfl, BSubInv.zero x y, Grow.made w _ (Nat.le_refl _), (Below.refl _ _).alloc (Nat.le_refl _) _⟩
  case round =>
    obtain ⟨k, cy, bs, hk, rfl, rfl, hinv, hgr, hb⟩ := hrel
    have HI := Lib.hid hinv
    have HG := Lib.hid hgr
    have hsz := hb.size
    clear hinv hgr
    by_cases hlt : k < n1
    · obtain ⟨bb, off, a, hA, hbb, HX, hcell⟩ := (r1.on hb).look hlt
      subst hA
      obtain ⟨b, eb⟩ : ∃ b, ys.getD k false = b := ⟨_, rfl⟩
      have C2 := Lib.hid (rbit_any (c := c2) (r2.on hb) (by omega) (k : Int) b (by show _ = _; rw [bitAt_nat, eb]))
      have B1 := Lib.hid (bval_bit xs k a HX.out)
      have B2 := Lib.hid (bval_bit ys k b eb)
      rw [V1.out] at B1
      rw [V2.out] at B2
      clear eb
      cases a <;> cases b <;> cases cy
      all_goals
        go_wp2_with fail
        refine (C2.out).mono ?_
        rintro e w' ⟨rfl, rfl⟩
        go_wp2_with (at_builtin; refine wpList_push _ rfl _ _ 40 rfl w.heap.size 4 (.bool false) 1 Try.underlying40 bool_info rfl (by omega) _ _ rfl HG.out _ rfl rfl (by rw [Bo_len, HI.out.len]; omega) hsz ?_; intro v' w1 hg1 hb1)
        go_roundw
        case rel =>
          rw [Bo_snoc] at hg1
          exact ⟨k + 1, _, _, by omega, by go_num, rfl, HI.out.step _ _ B1.out B2.out, hg1, hb.trans hb1⟩
        case measure => simp [intOf]; omega
    · obtain rfl : k = n1 := by omega
      go_wp2_with fail
      obtain ⟨A', c', hv, hsl, hc1, hc2⟩ := HG.out.bits
      rw [hv]
      have hz1 := S1.out
      refine (rcutN (bs := bs) hsl hc1 hc2 (HI.out.last (by omega) hle)).mono ?_
      rintro e w' ⟨m, rfl, hr, hm, rfl⟩
      clear hv hz1
      go_wp2_with fail
      go_ret
      exact ⟨_, m, _, rfl, hr, hb⟩

theorem Bo_zeros (n : Nat) : List.replicate n (Value.bool false) = Bo (List.replicate n false) := by simp [Bo]
theorem Own.grow {w : World} {base g : Nat} {t : TypeId} {cs : List Value} (h : Own w g t cs) (hb : base ≤ g) (hm : cs.length ≤ maxLen) : Grow w base t (.slice (some ⟨g, 0, none⟩) cs.length cs.length) cs :=
  ⟨by simp, .inr ⟨g, cs.length, cs.toArray, rfl, hb, h, Nat.le_refl _, hm, by simp, by simp⟩⟩

theorem grow_zeros {w : World} {g i : Nat} {t : TypeId} (h : Own w g t (List.replicate i (Value.bool false))) (hi : i ≤ 1000000) : Grow w g t (.slice (some ⟨g, 0, none⟩) i i) (Bo (List.replicate i false)) := by
  have := h.grow (Nat.le_refl g) (by rw [List.length_replicate]; unfold maxLen; omega)
  rw [List.length_replicate, Bo_zeros] at this
  exact this
theorem add_at (b off j : Nat) : (⟨b, off, none⟩ : Addr).add j = ⟨b, off + j, none⟩ := by
  unfold Addr.add
  split
  · rename_i e; subst e; rfl
  · rfl
/-- append(out, src...), the source being at an address. -/
theorem wpList_join {P : Program} (w : World) {ops : Array Oper} {rest : List Oper} {o : Oper} {a : Act} {Q : Exit → Act → World → Prop} (hgd : o.guard = none) (s x : Operand) (t : TypeId)
    (ho : o.op = .call { callee := .builtin .append, args := #[s, x], argTypes := #[t, t] })
    (base : Nat) (e : TypeId) (z : Value) (by_ : Nat) (ht : P.underlying t = some (.slice e)) (h2 : (P.info? e).map (fun i => (i.zero, i.size, i.bytes)) = some (some z, 1, by_)) (hz : z.cells.size = 1) (hby : by_ ≤ 64)
    (v : Value) (xs : List Value) (hs : a.eval s = v) (hown : Grow w base e v xs) (B b off m c : Nat) (ys : List Value) (hx : a.eval x = .slice (some ⟨b, off, none⟩) m c) (hy : Sl w B (some ⟨b, off, none⟩) m ys)
    (hu : ∀ u ∈ ys, u.oneCell' = true) (hlen : xs.length + m ≤ 3000000) (hbase : base ≤ w.heap.size)
    (h : ∀ v' w', Grow w' base e v' (xs ++ ys) → Below base w w' → wpList P ops Q rest (a.put o.dst v') w') : wpList P ops Q (o :: rest) a w := by
  obtain ⟨i, hi, i1, i2, i3⟩ := info_parts h2
  refine wpList_append_own _ hgd s x t ho base e i z 1 by_ ht hi i1 i2 i3 hz (by omega) v xs.length xs hs hown ⟨b, off, none⟩ m c ys hx (by rw [hy.1, Nat.mul_one]) ?_ hu ?_ ?_ hbase ?_
  · intro j u hj
    obtain ⟨b', off', he, _, hc⟩ := hy.2 j u hj
    injection he with he
    injection he with e1 e2
    subst e1 e2
    rw [add_at]
    exact hc
  · unfold maxLen; omega
  · have : (xs.length + m) * by_ ≤ 3000000 * 64 := Nat.mul_le_mul (by omega) hby
    omega
  · intro v' w' hown' hg _
    refine h v' w' ?_ ?_
    · unfold Grow
      rw [List.length_append, hy.1]
      exact hown'
    · exact (Below.refl base w).grown hg hbase (fun k hk => (World.ownsRow.lt hown k hk).1)
theorem Bo_one (bs : List Bool) : ∀ u ∈ Bo bs, u.oneCell' = true := by
  intro u hu
  obtain ⟨b, _, rfl⟩ := List.mem_map.1 hu
  rfl
theorem Bo_append (as_ bs : List Bool) : Bo as_ ++ Bo bs = Bo (as_ ++ bs) := by simp [Bo]

theorem rleft_none {A : Option Addr} {n c : Nat} {w : World} (h : BR w A n c 0) (i : Int) :
    Calls Try.prog 49 #[.slice A n c, .int .i64 i] w (BitsPost w 0) := by
  obtain rfl : n = 0 := h.size
  go_enter Try.func49, Try.ntmps49
  go_wp2_with fail
  go_ret
  exact ⟨A, 0, c, rfl, h, Below.refl _ _⟩

set_option maxHeartbeats 1000000 in
theorem rleft_any {A : Option Addr} {n c x : Nat} {w : World} (h : BR w A n c x) (hx : x ≠ 0) (hn : n ≤ 1000000) (i : Nat) (hi : i ≤ 1000000) :
    Calls Try.prog 49 #[.slice A n c, .int .i64 i] w (BitsPost w (x * 2 ^ i)) := by
  have S1 := h.size
  have hz : ((n : Int) == 0) = false := by
    rw [S1]
    have := (blen_pos hx).2
    simp; omega
  have hn0 : 0 < n := by rw [S1]; exact (blen_pos hx).2
  obtain ⟨bs, hr, hc1, hc2, hbc, hv⟩ := h
  have HV := Lib.hid hv
  have HBL := Lib.hid hr.len
  clear hv S1
  obtain ⟨bb, off, a0, hA, hbb, _, _⟩ := hr.look hn0
  subst hA
  go_enter Try.func49, Try.ntmps49
  go_wp2_with (first
    | (at_make; refine wpList_zeros _ rfl _ _ 40 rfl 4 (.bool false) 1 Try.underlying40 bool_info rfl (by omega) _ i rfl rfl (by omega) (by omega) ?_; intro w1 ho hb1 hz1; have hr1 := (hr.on hb1).1; have hgw : Grow w1 w.heap.size 4 (.slice (some ⟨w.heap.size, 0, none⟩) i i) (Bo (List.replicate i false)) := grow_zeros ho hi; have hlt1 := hb1.size)
    | (at_builtin; refine wpList_join _ rfl _ _ 40 rfl w.heap.size 4 (.bool false) 1 Try.underlying40 bool_info rfl (by omega) _ _ rfl hgw _ bb off n c _ rfl hr1 (Bo_one _) (by rw [Bo_len, List.length_replicate]; omega) hlt1 ?_; intro v' w2 hg2 hb2))
  rw [Bo_append] at hg2
  obtain ⟨A', c', hv, hsl, hc1', hc2'⟩ := hg2.bits
  rw [hv]
  go_ret
  obtain ⟨l1, l2⟩ := hbc.left (by intro e; rw [e] at HBL; have := HBL.out; simp at this; omega) i
  rw [HV.out] at l2
  exact ⟨A', _, c', rfl, ⟨_, hsl, hc1', hc2', l1, l2⟩, hb1.trans hb2⟩
end Go.Proofs.Ytcfmgoilncninaa
