
/-
  The reference's cut, Bit, Zeros, Full, Cmp: what only reads bits.
-/
import Derived.Test.YthaehfdjldjdiaaDoorNatb
import Derived.Test.YthaehfdjldjdiaaDoorMathr
namespace Go.Proofs.YthaehfdjldjdiaaDoor
open Go.RowKit
set_option linter.unusedVariables false

/-- bits as cells. -/
def Bo (bs : List Bool) : List Value := bs.map Value.bool
theorem Bo_len (bs : List Bool) : (Bo bs).length = bs.length := by simp [Bo]
theorem Bo_at (bs : List Bool) (i : Nat) : (Bo bs)[i]? = (bs[i]?).map Value.bool := by simp [Bo]
theorem Bo_take (bs : List Bool) (m : Nat) : (Bo bs).take m = Bo (bs.take m) := by simp [Bo, List.map_take]
theorem Bo_drop (bs : List Bool) (m : Nat) : (Bo bs).drop m = Bo (bs.drop m) := by simp [Bo, List.map_drop]
theorem Bo_snoc (bs : List Bool) (b : Bool) : Bo bs ++ [Value.bool b] = Bo (bs ++ [b]) := by simp [Bo]

/-- where something is read, the slice at A lies in a block of elements of type t. -/
def Tg (w : World) (A : Option Addr) (n : Nat) (t : TypeId) : Prop := 0 < n → ∃ b off cs f, A = some ⟨b, off, none⟩ ∧ w.heap[b]? = some (.cells cs t f)
theorem Tg.nil_ {w : World} {A : Option Addr} {t : TypeId} : Tg w A 0 t := fun h => by omega
theorem Tg.on {w w' : World} {A : Option Addr} {n : Nat} {t : TypeId} (h : Tg w A n t) (hb : Below w.heap.size w w') : Tg w' A n t := fun h0 => by
  obtain ⟨b, off, cs, f, e, hc⟩ := h h0
  exact ⟨b, off, cs, f, e, (hb.block b (Array.getElem?_eq_some_iff.1 hc).1).trans hc⟩
theorem Tg.less {w : World} {A : Option Addr} {n m : Nat} {t : TypeId} (h : Tg w A n t) (hm : m ≤ n) : Tg w A m t := fun h0 => h (by omega)
theorem Tg.put {w : World} {A : Option Addr} {n : Nat} {t : TypeId} (h : Tg w A n t) (g i : Nat) (v : Value) : Tg (w.setCell ⟨g, i, none⟩ v) A n t := fun h0 => by
  obtain ⟨b, off, cs, f, e, hc⟩ := h h0
  by_cases hp : g = b
  · refine ⟨b, off, cs.setIfInBounds i v, f, e, ?_⟩
    subst hp
    simp [World.setCell, Array.getElem?_modify, hc]
  · refine ⟨b, off, cs, f, e, ?_⟩
    simp [World.setCell, Array.getElem?_modify, hp, hc]

/-- the slice at A reads as the bits bs; they lie in a block of bits. -/
def BS (w : World) (A : Option Addr) (n : Nat) (bs : List Bool) : Prop := Sl w w.heap.size A n (Bo bs) ∧ Tg w A n 4
theorem BS.nil_ {w : World} {A : Option Addr} : BS w A 0 [] := ⟨Sl.nil_, Tg.nil_⟩
theorem BS.len {w : World} {A : Option Addr} {n : Nat} {bs : List Bool} (h : BS w A n bs) : bs.length = n := by rw [← Bo_len]; exact h.1.1
theorem BS.on {w w' : World} {A : Option Addr} {n : Nat} {bs : List Bool} (h : BS w A n bs) (hb : Below w.heap.size w w') : BS w' A n bs := ⟨(Sl.below h.1 hb).more hb.size, h.2.on hb⟩
theorem BS.take {w : World} {A : Option Addr} {n : Nat} {bs : List Bool} (h : BS w A n bs) {m : Nat} (hm : m ≤ n) : BS w A m (bs.take m) := by
  have := Sl.take h.1 hm
  rw [Bo_take] at this
  exact ⟨this, h.2.less hm⟩
theorem BS.look {w : World} {A : Option Addr} {n k : Nat} {bs : List Bool} (h : BS w A n bs) (hk : k < n) : ∃ b off x, A = some ⟨b, off, none⟩ ∧ b < w.heap.size ∧ Hid (bs.getD k false = x) ∧ w.cell? ⟨b, off + k, none⟩ = some (.bool x) := by
  obtain ⟨b, off, u, e, hb, hu, hc⟩ := Sl.look h.1 hk
  have hl : k < bs.length := by have := h.len; omega
  rw [Bo_at, List.getElem?_eq_getElem hl] at hu
  simp at hu
  subst hu
  refine ⟨b, off, bs[k], e, hb, ?_, hc⟩
  show _ = _
  rw [List.getD_eq_getElem?_getD, List.getElem?_eq_getElem hl]; rfl

/-- the slice at A tells the number x by bits, none 0 at the end. -/
def BR (w : World) (A : Option Addr) (n c x : Nat) : Prop := ∃ bs, BS w A n bs ∧ n ≤ c ∧ c ≤ maxLen ∧ BC bs ∧ bval bs = x
theorem BR.on {w w' : World} {A : Option Addr} {n c x : Nat} (h : BR w A n c x) (hb : Below w.heap.size w w') : BR w' A n c x := by
  obtain ⟨bs, h1, h2⟩ := h
  exact ⟨bs, h1.on hb, h2⟩
theorem BR.size {w : World} {A : Option Addr} {n c x : Nat} (h : BR w A n c x) : n = blen x := by
  obtain ⟨bs, h1, h2, h3, h4, h5⟩ := h
  rw [← h1.len, ← h5]; exact h4
theorem BR.cap {w : World} {A : Option Addr} {n c x : Nat} (h : BR w A n c x) : n ≤ c ∧ c ≤ maxLen := by
  obtain ⟨bs, h1, h2, h3, h4, h5⟩ := h
  exact ⟨h2, h3⟩

def BCutPost (w : World) (A : Option Addr) (n c : Nat) (bs : List Bool) (e : Ending) (w' : World) : Prop :=
  ∃ m, m ≤ n ∧ BCutAt bs m ∧ e = .returned (.slice A m c) ∧ w = w'
set_option maxHeartbeats 400000 in
theorem rcut_any (A : Option Addr) (n c : Nat) (bs : List Bool) (w : World) (h : BS w A n bs) (hnc : n ≤ c) (hc : c ≤ maxLen) :
    Calls Tryd.prog 67 #[.slice A n c] w (BCutPost w A n c bs) := by
  unfold maxLen at hc
  have HL := Lib.hid h.len
  go_enter Tryd.func67, Tryd.ntmps67
  go_wp2
  go_loop [3] (fun t => ∃ m : Nat, m ≤ n ∧ (∀ j, m ≤ j → bs.getD j false = false) ∧ t = .int .i64 m) (fun t => (intOf t).toNat)
  case atStart => exact ⟨n, Nat.le_refl _, fun j hj => bgetD_ge HL.out hj, rfl⟩
  case round =>
    obtain ⟨m, hm, hz, rfl⟩ := hrel
    have HZ := Lib.hid hz
    clear hz
    by_cases h0 : m = 0
    · subst h0
      go_wp2
      go_ret
      exact ⟨0, by omega, ⟨HZ.out, by omega⟩, rfl, rfl⟩
    · obtain ⟨b, off, x, rfl, hb, HX, hcell⟩ := h.look (k := m - 1) (by omega)
      cases x
      · go_wp2
        go_round
        case rel =>
          refine ⟨m - 1, by omega, fun j hj => ?_, by go_num⟩
          by_cases e : j = m - 1
          · rw [e]; exact HX.out
          · exact HZ.out j (by omega)
        case measure => simp [intOf]; omega
      · go_wp2
        go_ret
        exact ⟨m, hm, ⟨HZ.out, fun _ => HX.out⟩, rfl, rfl⟩
def BCutN (w : World) (A : Option Addr) (n c x : Nat) (e : Ending) (w' : World) : Prop := ∃ m, e = .returned (.slice A m c) ∧ BR w A m c x ∧ m ≤ n ∧ w = w'
theorem rcutN {A : Option Addr} {n c x : Nat} {bs : List Bool} {w : World} (h : BS w A n bs) (hnc : n ≤ c) (hc : c ≤ maxLen) (hx : bval bs = x) :
    Calls Tryd.prog 67 #[.slice A n c] w (BCutN w A n c x) := by
  refine (rcut_any A n c bs w h hnc hc).mono ?_
  rintro e w' ⟨m, hm, hc', rfl, rfl⟩
  obtain ⟨c1, c2⟩ := bcut_val (by rw [h.len]; exact hm) hc'
  exact ⟨m, rfl, ⟨bs.take m, h.take hm, by omega, hc, c1, by rw [c2, hx]⟩, hm, rfl⟩

/-- the bit of a place, any place. -/
def bitAt (bs : List Bool) (i : Int) : Bool := if i < 0 then false else bs.getD i.toNat false
theorem rbit_any {A : Option Addr} {n c : Nat} {bs : List Bool} {w : World} (h : BS w A n bs) (hn : n ≤ 9223372036854775807) (i : Int) (b : Bool) (hb : Hid (bitAt bs i = b)) :
    Calls Tryd.prog 66 #[.slice A n c, .int .i64 i] w fun e w' => e = .returned (.bool b) ∧ w = w' := by
  have HL := Lib.hid h.len
  by_cases h0 : i < 0
  · have hbb : b = false := by rw [← hb.out]; unfold bitAt; rw [if_pos h0]
    subst hbb
    have d1 : decide (0 ≤ i) = false := decide_eq_false (by omega)
    go_enter Tryd.func66, Tryd.ntmps66
    go_wp2
    go_ret
    exact ⟨rfl, rfl⟩
  · obtain ⟨k, rfl⟩ := Int.eq_ofNat_of_zero_le (show 0 ≤ i by omega)
    have hbb : bs.getD k false = b := by rw [← hb.out]; unfold bitAt; rw [if_neg h0, Int.toNat_natCast]
    have d1 : decide (0 ≤ (k : Int)) = true := decide_eq_true (by omega)
    by_cases hk : k < n
    · obtain ⟨b', off, x, rfl, hb', HX, hcell⟩ := h.look hk
      rw [HX.out] at hbb
      subst hbb
      have d2 : decide ((k : Int) < (n : Int)) = true := decide_eq_true (by omega)
      go_enter Tryd.func66, Tryd.ntmps66
      go_wp2
      go_ret
      exact ⟨rfl, rfl⟩
    · rw [bgetD_ge HL.out (by omega)] at hbb
      subst hbb
      have d2 : decide ((k : Int) < (n : Int)) = false := decide_eq_false (by omega)
      go_enter Tryd.func66, Tryd.ntmps66
      go_wp2
      go_ret
      exact ⟨rfl, rfl⟩
end Go.Proofs.YthaehfdjldjdiaaDoor
