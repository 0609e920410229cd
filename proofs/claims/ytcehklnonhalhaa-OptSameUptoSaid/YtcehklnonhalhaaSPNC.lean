/-
  What the proofs of OptSame need: NC.
-/
import Derived.Test.YtcehklnonhalhaaSPNA
import Derived.Test.YtcehklnonhalhaaSPMA
set_option linter.unusedVariables false
namespace Go.Proofs.Ytcehklnonhalhaa
open Go.RowKit
def Bo (bs : List Bool) : List Value := bs.map Value.bool
theorem Bo_len (bs : List Bool) : (Bo bs).length = bs.length := by simp [Bo]
theorem Bo_at (bs : List Bool) (i : Nat) : (Bo bs)[i]? = (bs[i]?).map Value.bool := by simp [Bo]
theorem Bo_take (bs : List Bool) (m : Nat) : (Bo bs).take m = Bo (bs.take m) := by simp [Bo, List.map_take]
theorem Bo_snoc (bs : List Bool) (b : Bool) : Bo bs ++ [Value.bool b] = Bo (bs ++ [b]) := by simp [Bo]
def Tg (w : World) (A : Option Addr) (n : Nat) (t : TypeId) : Prop := 0 < n → ∃ b off cs f, A = some ⟨b, off, none⟩ ∧ w.heap[b]? = some (.cells cs t f)
theorem Tg.nil_ {w : World} {A : Option Addr} {t : TypeId} : Tg w A 0 t := fun h => by omega
theorem Tg.on {w w' : World} {A : Option Addr} {n : Nat} {t : TypeId} (h : Tg w A n t) (hb : Below w.heap.size w w') : Tg w' A n t := fun h0 => by
 obtain ⟨b, off, cs, f, e, hc⟩ := h h0
 exact ⟨b, off, cs, f, e, (hb.block b (Array.getElem?_eq_some_iff.1 hc).1).trans hc⟩
theorem Tg.less {w : World} {A : Option Addr} {n m : Nat} {t : TypeId} (h : Tg w A n t) (hm : m ≤ n) : Tg w A m t := fun h0 => h (by omega)
def BS (w : World) (A : Option Addr) (n : Nat) (bs : List Bool) : Prop := Sl w w.heap.size A n (Bo bs) ∧ Tg w A n 4
theorem BS.len {w : World} {A : Option Addr} {n : Nat} {bs : List Bool} (h : BS w A n bs) : bs.length = n := by rw [← Bo_len]; exact h.1.1
theorem BS.on {w w' : World} {A : Option Addr} {n : Nat} {bs : List Bool} (h : BS w A n bs) (hb : Below w.heap.size w w') : BS w' A n bs := ⟨(Sl.below h.1 hb).more hb.size, h.2.on hb⟩
theorem BS.take {w : World} {A : Option Addr} {n : Nat} {bs : List Bool} (h : BS w A n bs) {m : Nat} (hm : m ≤ n) : BS w A m (bs.take m) := by
 have := Sl.take h.1 hm
 rw [Bo_take] at this
 exact ⟨this, h.2.less hm⟩
theorem BS.look {w : World} {A : Option Addr} {n k : Nat} {bs : List Bool} (h : BS w A n bs) (hk : k < n) : ∃ b off x, A = some ⟨b, off, none⟩ ∧ b < w.heap.size ∧ Hid (bs.getD k false = x) ∧ w.cell? ⟨b, off + k, none⟩ = some (.bool x) := by
 obtain ⟨b, off, u, e, hb, hu, hc⟩ := Sl.look h.1 hk
 have hl : k < bs.length := by have := h.len; omega
 rw [Bo_at, List.getElem?_eq_getElem hl] at hu
 simp at hu
 subst hu
 refine ⟨b, off, bs[k], e, hb, ?_, hc⟩
 show _ = _
 rw [List.getD_eq_getElem?_getD, List.getElem?_eq_getElem hl]; rfl
def BR (w : World) (A : Option Addr) (n c x : Nat) : Prop := ∃ bs, BS w A n bs ∧ n ≤ c ∧ c ≤ maxLen ∧ BC bs ∧ bval bs = x
theorem BR.size {w : World} {A : Option Addr} {n c x : Nat} (h : BR w A n c x) : n = blen x := by
 obtain ⟨bs, h1, h2, h3, h4, h5⟩ := h
 rw [← h1.len, ← h5]; exact h4
def BCutPost (w : World) (A : Option Addr) (n c : Nat) (bs : List Bool) (e : Ending) (w' : World) : Prop :=
 ∃ m, m ≤ n ∧ BCutAt bs m ∧ e = .returned (.slice A m c) ∧ w = w'
set_option maxHeartbeats 400000 in
theorem rcut_any (A : Option Addr) (n c : Nat) (bs : List Bool) (w : World) (h : BS w A n bs) (hnc : n ≤ c) (hc : c ≤ maxLen) :
  Calls Try.prog 123 #[.slice A n c] w (BCutPost w A n c bs) := by
 unfold maxLen at hc
 have HL := Lib.hid h.len
 go_enter Try.func123, Try.ntmps123
 go_wp2
 go_loop [3] (fun t => ∃ m : Nat, m ≤ n ∧ (∀ j, m ≤ j → bs.getD j false = false) ∧ t = .int .i64 m) (fun t => (intOf t).toNat)
 case atStart => exact ⟨n, Nat.le_refl _, fun j hj => bgetD_ge HL.out hj, rfl⟩
 case round =>
  obtain ⟨m, hm, hz, rfl⟩ := hrel
  have HZ := Lib.hid hz
  clear hz
  by_cases h0 : m = 0
  ·subst h0
   go_wp2
   go_ret
   exact ⟨0, by omega, ⟨HZ.out, by omega⟩, rfl, rfl⟩
  ·obtain ⟨b, off, x, rfl, hb, HX, hcell⟩ := h.look (k := m - 1) (by omega)
   cases x
   ·go_wp2
    go_round
    case rel =>
     refine ⟨m - 1, by omega, fun j hj => ?_, by go_num⟩
     by_cases e : j = m - 1
     ·rw [e]; exact HX.out
     ·exact HZ.out j (by omega)
    case measure => simp [intOf]; omega
   ·go_wp2
    go_ret
    exact ⟨m, hm, ⟨HZ.out, fun _ => HX.out⟩, rfl, rfl⟩
def BCutN (w : World) (A : Option Addr) (n c x : Nat) (e : Ending) (w' : World) : Prop := ∃ m, e = .returned (.slice A m c) ∧ BR w A m c x ∧ m ≤ n ∧ w = w'
theorem rcutN {A : Option Addr} {n c x : Nat} {bs : List Bool} {w : World} (h : BS w A n bs) (hnc : n ≤ c) (hc : c ≤ maxLen) (hx : bval bs = x) :
  Calls Try.prog 123 #[.slice A n c] w (BCutN w A n c x) := by
 refine (rcut_any A n c bs w h hnc hc).mono ?_
 rintro e w' ⟨m, hm, hc', rfl, rfl⟩
 obtain ⟨c1, c2⟩ := bcut_val (by rw [h.len]; exact hm) hc'
 exact ⟨m, rfl, ⟨bs.take m, h.take hm, by omega, hc, c1, by rw [c2, hx]⟩, hm, rfl⟩
def bitAt (bs : List Bool) (i : Int) : Bool := if i < 0 then false else bs.getD i.toNat false
theorem rbit_any {A : Option Addr} {n c : Nat} {bs : List Bool} {w : World} (h : BS w A n bs) (hn : n ≤ 9223372036854775807) (i : Int) (b : Bool) (hb : Hid (bitAt bs i = b)) :
  Calls Try.prog 124 #[.slice A n c, .int .i64 i] w fun e w' => e = .returned (.bool b) ∧ w = w' := by
 have HL := Lib.hid h.len
 by_cases h0 : i < 0
 ·have hbb : b = false := by rw [← hb.out]; unfold bitAt; rw [if_pos h0]
  subst hbb
  have d1 : decide (0 ≤ i) = false := decide_eq_false (by omega)
  go_enter Try.func124, Try.ntmps124
  go_wp2
  go_ret
  exact ⟨rfl, rfl⟩
 ·obtain ⟨k, rfl⟩ := Int.eq_ofNat_of_zero_le (show 0 ≤ i by omega)
  have hbb : bs.getD k false = b := by rw [← hb.out]; unfold bitAt; rw [if_neg h0, Int.toNat_natCast]
  have d1 : decide (0 ≤ (k : Int)) = true := decide_eq_true (by omega)
  by_cases hk : k < n
  ·obtain ⟨b', off, x, rfl, hb', HX, hcell⟩ := h.look hk
   rw [HX.out] at hbb
   subst hbb
   have d2 : decide ((k : Int) < (n : Int)) = true := decide_eq_true (by omega)
   go_enter Try.func124, Try.ntmps124
   go_wp2
   go_ret
   exact ⟨rfl, rfl⟩
  ·rw [bgetD_ge HL.out (by omega)] at hbb
   subst hbb
   have d2 : decide ((k : Int) < (n : Int)) = false := decide_eq_false (by omega)
   go_enter Try.func124, Try.ntmps124
   go_wp2
   go_ret
   exact ⟨rfl, rfl⟩
theorem bitAt_nat (bs : List Bool) (k : Nat) : bitAt bs (k : Int) = bs.getD k false := by
 unfold bitAt
 rw [if_neg (by omega), Int.toNat_natCast]
def Grow (w : World) (base : Nat) (t : TypeId) (v : Value) (xs : List Value) : Prop := w.ownsRow base t 1 v xs.length xs
theorem Grow.form {w : World} {base : Nat} {t : TypeId} {v : Value} {xs : List Value} (h : Grow w base t v xs) : ∃ A c, v = .slice A xs.length c ∧ Sl w w.heap.size A xs.length xs ∧ xs.length ≤ c ∧ c ≤ maxLen := by
 rcases h.2 with ⟨rfl, hn⟩ | ⟨g, cap, cur, rfl, hb, hg, h1, h2, h3, h4⟩
 ·have : xs = [] := List.eq_nil_of_length_eq_zero hn
  subst this
  exact ⟨none, 0, rfl, Sl.nil_, Nat.le_refl _, by unfold maxLen; omega⟩
 ·refine ⟨some ⟨g, 0, none⟩, cap, rfl, ⟨rfl, fun i u hu => ⟨g, 0, rfl, (Array.getElem?_eq_some_iff.1 hg).1, ?_⟩⟩, h1, h2⟩
  rw [Nat.zero_add, cell_of_row w g i cur t (0, 0) hg]
  rw [← h4, List.getElem?_take] at hu
  split at hu
  ·simpa using hu
  ·cases hu
theorem Grow.tag {w : World} {base n c : Nat} {t : TypeId} {A : Option Addr} {xs : List Value} (h : Grow w base t (.slice A n c) xs) : Tg w A n t := fun h0 => by
 rcases h.2 with ⟨hv, hn⟩ | ⟨g, cap, cur, hv, hb, hg, h1, h2, h3, h4⟩
 ·injection hv with _ e; omega
 ·injection hv with e
  exact ⟨g, 0, cur, _, e, hg⟩
theorem Grow.bits {w : World} {base : Nat} {v : Value} {bs : List Bool} (h : Grow w base 4 v (Bo bs)) : ∃ A c, v = .slice A (Bo bs).length c ∧ BS w A (Bo bs).length bs ∧ (Bo bs).length ≤ c ∧ c ≤ maxLen := by
 obtain ⟨A, c, hv, hs, h1, h2⟩ := h.form
 subst hv
 exact ⟨A, c, rfl, ⟨hs, h.tag⟩, h1, h2⟩
theorem Grow.made (w : World) {base : Nat} (t : TypeId) (hb : base ≤ w.heap.size) : Grow (w.alloc (.cells #[] t)) base t (.slice (some ⟨w.heap.size, 0, none⟩) 0 0) [] :=
 World.ownsRow_lit w #[] 0 hb (by unfold maxLen; omega) rfl
theorem wpList_push {P : Program} (w : World) {ops : Array Oper} {rest : List Oper} {o : Oper} {a : Act} {Q : Exit → Act → World → Prop} (hgd : o.guard = none) (s x : Operand) (t : TypeId)
  (ho : o.op = .call { callee := .builtin .append, args := #[s, x], argTypes := #[t, t] })
  (base : Nat) (e : TypeId) (z : Value) (by_ : Nat) (ht : P.underlying t = some (.slice e)) (h2 : (P.info? e).map (fun i => (i.zero, i.size, i.bytes)) = some (some z, 1, by_)) (hz : z.cells.size = 1) (hby : by_ ≤ 64)
  (v : Value) (xs : List Value) (hs : a.eval s = v) (hown : Grow w base e v xs) (u : Value) (hu : u.oneCell' = true) (hx : a.eval x = .slice (some ⟨w.heap.size, 0, none⟩) 1 1)
  (hlen : xs.length ≤ 3000000) (hbase : base ≤ w.heap.size)
  (h : ∀ v' w', Grow w' base e v' (xs ++ [u]) → Below base w w' → wpList P ops Q rest (a.put o.dst v') w') : wpList P ops Q (o :: rest) a (w.alloc (.cells #[u] e)) := by
 obtain ⟨i, hi, i1, i2, i3⟩ := info_parts h2
 refine wpList_append_own _ hgd s x t ho base e i z 1 by_ ht hi i1 i2 i3 hz (by omega) v xs.length xs hs (World.ownsRow.alloc hown _) ⟨w.heap.size, 0, none⟩ 1 1 [u] hx rfl ?_ ?_ ?_ ?_ ?_ ?_
 ·intro j u' hj
  match j, hj with
  | 0, hj =>
   simp at hj
   subst hj
   simp [Addr.add]
 ·intro u' hu'
  simp at hu'
  subst hu'
  exact hu
 ·unfold maxLen; omega
 ·have : (xs.length + 1) * by_ ≤ 3000001 * 64 := Nat.mul_le_mul (by omega) hby
  omega
 ·simp; omega
 ·intro v' w' hown' hg _
  refine h v' w' ?_ ?_
  ·unfold Grow
   rw [List.length_append]
   exact hown'
  ·refine (Below.refl base w).alloc hbase _ |>.grown hg (by simp; omega) (fun k hk => ?_)
   exact (World.ownsRow.lt hown k hk).1
theorem bool_info : (Try.prog.info? 4).map (fun i => (i.zero, i.size, i.bytes)) = some (some (.bool false), 1, 1) := by kernel_rfl
def BitsPost (w : World) (x : Nat) (e : Ending) (w' : World) : Prop := ∃ A n c, e = .returned (.slice A n c) ∧ BR w' A n c x ∧ Below w.heap.size w w'
theorem bit_odd (n : Nat) : (((n : Int) % 2) == 1) = decide (n % 2 = 1) := by
 rw [Bool.eq_iff_iff]; simp; omega
set_option maxHeartbeats 1000000 in
theorem rof_any {A : Option Addr} {n c : Nat} {xs : List Nat} {w : World} (h : NR w w.heap.size A n xs) (hn : n ≤ 30000) :
  Calls Try.prog 106 #[.slice A n c] w (BitsPost w (val xs)) := by
 have HNL := Lib.hid h.len
 go_enter Try.func106, Try.ntmps106
 go_wp2_with fail
 go_loopw [3, 4] (fun v iv wr => ∃ (i : Nat) (bs : List Bool), i ≤ n ∧ iv = .int .i64 i ∧ bs.length = 32 * i ∧ bval bs = val (xs.take i) ∧ Grow wr w.heap.size 4 v (Bo bs) ∧ Below w.heap.size w wr) (fun _ iv _ => n - (intOf iv).toNat)
 case atStart => exact ⟨0, [], by omega, rfl, rfl, by simp [bval, val], Grow.made w _ (Nat.le_refl _), (Below.refl _ _).alloc (Nat.le_refl _) _⟩
 case round =>
  obtain ⟨i, bs, hi, rfl, hl, hs, hgr, hb⟩ := hrel
  have HL := Lib.hid hl
  have HS := Lib.hid hs
  have HG := Lib.hid hgr
  clear hl hs hgr
  by_cases hlt : i < n
  ·obtain ⟨b, off, x, hA, hbb, HX, hlx, hcell⟩ := (h.below hb).look hlt
   subst hA
   go_wp2_with fail
   obtain ⟨wo, rfl⟩ : ∃ wo : World, wo = wr := ⟨_, rfl⟩
   go_loopw [3, 5, 6] (fun v t kv wr => ∃ (k y : Nat) (bs : List Bool), k ≤ 32 ∧ kv = .int .i64 k ∧ y = x / 2 ^ k ∧ t = .int .u32 y ∧ OfInv xs bs i k x ∧ Grow wr w.heap.size 4 v (Bo bs) ∧ Below w.heap.size w wr) (fun _ _ kv _ => 32 - (intOf kv).toNat)
   case atStart => exact ⟨0, x, bs, by omega, rfl, by simp, rfl, OfInv.zero xs i x bs HL.out HS.out, HG.out, hb⟩
   case round =>
    obtain ⟨k, y, cs, hk, rfl, hy, rfl, hinv, hgr, hb2⟩ := hrel
    have HY := Lib.hid hy
    have HI := Lib.hid hinv
    have HG2 := Lib.hid hgr
    have hsz := hb2.size
    have hyl : y < 4294967296 := by rw [hy]; exact Nat.lt_of_le_of_lt (Nat.div_le_self _ _) hlx
    clear hy hinv hgr
    by_cases hk32 : k < 32
    ·go_wp2_with (at_builtin; refine wpList_push _ rfl _ _ 132 rfl w.heap.size 4 (.bool false) 1 Try.underlying132 bool_info rfl (by omega) _ _ rfl HG2.out _ rfl rfl (by rw [Bo_len, HI.out.len]; omega) hsz ?_; intro v' w1 hg1 hb1)
     go_roundw
     case rel =>
      refine ⟨k + 1, y / 2, cs ++ [decide (y % 2 = 1)], by omega, by go_num, by rw [div_succ, ← HY.out], by go_num, HI.out.step _ (by rw [decide_toNat, HY.out]), ?_, hb2.trans hb1⟩
      rw [← Bo_snoc, ← bit_odd]; exact hg1
     case measure => simp [intOf]; omega
    ·obtain rfl : k = 32 := by omega
     go_wp2_with fail
     go_roundw
     case rel =>
      obtain ⟨l1, l2⟩ := HI.out.last HX.out hlx
      exact ⟨i + 1, cs, by omega, by go_num, l1, l2, HG2.out, hb2⟩
     case measure => simp [intOf]; omega
  ·obtain rfl : i = n := by omega
   go_wp2_with fail
   obtain ⟨A', c', hv, hsl, hc1, hc2⟩ := HG.out.bits
   rw [hv]
   have hs := HS.out
   rw [List.take_of_length_le (by rw [HNL.out]; omega)] at hs
   refine (rcutN (bs := bs) hsl hc1 hc2 hs).mono ?_
   rintro e w' ⟨m, rfl, hr, hm, rfl⟩
   clear hv
   go_wp2_with fail
   go_ret
   exact ⟨_, m, _, rfl, hr, hb⟩
theorem U_snoc (ds : List Nat) (x : Nat) : U ds ++ [Value.int .u32 (x : Int)] = U (ds ++ [x]) := by simp [U]
end Go.Proofs.Ytcehklnonhalhaa
