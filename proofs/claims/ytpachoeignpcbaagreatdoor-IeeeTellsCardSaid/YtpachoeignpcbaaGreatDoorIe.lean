
/-
  ieee's product of two operands.
-/
import Derived.Test.YtpachoeignpcbaaGreatDoorId
import Derived.Deep.DeepCutAuto
namespace Go.Proofs.YtpachoeignpcbaaGreatDoor
open Go.RowKit
set_option linter.unusedVariables false

/-- two terms' variables, made within one assignment. -/
def CutT (w0 : World) (g1 i1 d1 : Bool) (x1 : Nat) (e1 : Int) (g2 i2 d2 : Bool) (x2 : Nat) (e2 : Int) (s7 s8 : Value) (wx : World) : Prop :=
  ∃ a b A1 k1 A2 k2, s7 = .pointer (some ⟨a, 0, none⟩) ∧ s8 = .pointer (some ⟨b, 0, none⟩) ∧ TB wx a 50 g1 i1 d1 A1 k1 k1 e1 ∧ TB wx b 50 g2 i2 d2 A2 k2 k2 e2 ∧ Res wx A1 k1 x1 ∧ Res wx A2 k2 x2 ∧ w0.heap.size ≤ a ∧ w0.heap.size ≤ b ∧ Below w0.heap.size w0 wx
theorem size_alloc1 (w : World) (o : Obj) : (w.alloc o).heap.size = w.heap.size + 1 := by simp
theorem size_pa (w : World) (o : Obj) (s : Nat) (a b c d e : Value) : ((put5 w s a b c d e).alloc o).heap.size = w.heap.size + 1 := by simp [World.setCell]
theorem size_ap (w : World) (o : Obj) (s : Nat) (a b c d e : Value) : (put5 (w.alloc o) s a b c d e).heap.size = w.heap.size + 1 := by simp [World.setCell]
theorem TB.drew {w : World} {s : Nat} {ty : TypeId} {neg inf dn : Bool} {A : Option Addr} {n c : Nat} {e : Int} (h : TB w s ty neg inf dn A n c e) : TB w.drew s ty neg inf dn A n c e := h.on ((Below.refl _ _).drew)
theorem below_drew {B : Nat} {v w : World} (h : Below B v w) : Below B v w.drew := h.drew
theorem cutP {p q : Prop} (h : p) (k : p → q) : q := k h
/-- block s is a term's variable. -/
def TV (w : World) (s : Nat) : Prop := ∃ neg inf dn A n c e, TB w s 50 neg inf dn A n c e
theorem TV.of {w : World} {s : Nat} {neg inf dn : Bool} {A : Option Addr} {n c : Nat} {e : Int} (h : TB w s 50 neg inf dn A n c e) : TV w s := ⟨_, _, _, _, _, _, _, h⟩
theorem TV.other {w : World} {s g : Nat} (h : TV w g) (hs : s ≠ g) (a b c' d e' : Value) : TV (put5 w s a b c' d e') g := by
  obtain ⟨_, _, _, _, _, _, _, h⟩ := h
  exact ⟨_, _, _, _, _, _, _, h.other hs a b c' d e'⟩
theorem TV.alloc {w : World} {s : Nat} (h : TV w s) (o : Obj) : TV (w.alloc o) s := by
  obtain ⟨_, _, _, _, _, _, _, h⟩ := h
  exact ⟨_, _, _, _, _, _, _, h.alloc o⟩
theorem TB.put' {w : World} {s : Nat} (h : TV w s) (neg' inf' dn' : Bool) (A' : Option Addr) (n' c' : Nat) (e' : Int) :
    TB (put5 w s (.bool neg') (.bool inf') (.bool dn') (.slice A' n' c') (.int .i64 e')) s 50 neg' inf' dn' A' n' c' e' := by
  obtain ⟨_, _, _, _, _, _, _, h⟩ := h
  exact h.put neg' inf' dn' A' n' c' e'
theorem Res.alloc5 {w : World} {A : Option Addr} {n x : Nat} (h : Res w A n x) (o : Obj) : Res (w.alloc o) A n x := h.on (below_lit _ _)
theorem Res.put5 {w : World} {s : Nat} {A : Option Addr} {n x : Nat} (h : Res w A n x) (hs : TV w s) (a b c d e : Value) : Res (put5 w s a b c d e) A n x := by
  obtain ⟨_, _, _, _, _, _, _, hs⟩ := hs
  exact hs.res h a b c d e
set_option maxHeartbeats 4000000 in
theorem product_walk {B P W M E H : Nat} {low : Int} (hf : Fm B P W M E H low) (a b : Nat) (ha : a < 18446744073709551616) (hb : b < 18446744073709551616) {w : World} (hT : Tab w) {g1 i1 d1 g2 i2 d2 : Bool} {x1 x2 : Nat} {e1 e2 : Int} (hx : tmS M E H low a = ⟨g1, i1, ⟨d1, x1, e1⟩⟩) (hy : tmS M E H low b = ⟨g2, i2, ⟨d2, x2, e2⟩⟩)
    {rn : Bool} {rx : Nat} {re me : Int} (hm : mulS ⟨d1, x1, e1⟩ ⟨d2, x2, e2⟩ = (⟨rn, rx, re⟩, me)) (iv : Bool) (hi : (i1 || i2) = iv) (nx : Bool) (hn : (g1 == g2) = nx) (hl1 : blen x1 ≤ 4096) (hl2 : blen x2 ≤ 4096) :
    Calls Tryz.prog 28 #[.agg #[.int .i64 (B : Int), .int .i64 (P : Int), .int .i64 (W : Int)], .int .u64 (a : Int), .int .u64 (b : Int)] w (TmX w (!nx) iv rn rx re) := by
  have HA1 := Lib.hid hx
  have HB1 := Lib.hid hy
  have HM := Lib.hid hm
  have HI := Lib.hid hi
  have HN := Lib.hid hn
  clear hx hy hm hi hn
  go_enter Tryz.func28, Tryz.ntmps28
  go_wp2_with fail
  obtain ⟨V, hV, z0, z6, BW, sW⟩ := tframe w 25 50 (B : Int) (P : Int) (W : Int) false false false none 0 0 0
  rw [hV]
  clear hV
  replace hT := hT.on BW
  go_cut [7, 8] (CutT V g1 i1 d1 x1 e1 g2 i2 d2 x2 e2)
  case first =>
    have HS : Hid (∀ w', Below V.heap.size V w' → w'.cell? ⟨w.heap.size, 0, none⟩ = some (.int .i64 (B : Int)) ∧ w'.cell? ⟨w.heap.size, 1, none⟩ = some (.int .i64 (P : Int)) ∧ w'.cell? ⟨w.heap.size, 2, none⟩ = some (.int .i64 (W : Int))) := fun w' hb => by
      have p0 := (z0.on hb).cells
      exact ⟨p0.1, p0.2.1, p0.2.2.1⟩
    have HA : Hid (∀ V', Below V.heap.size V V' → Calls Tryz.prog 20 #[.agg #[.int .i64 (B : Int), .int .i64 (P : Int), .int .i64 (W : Int)], .int .u64 (a : Int)] V' (TmX V' g1 i1 d1 x1 e1)) := Lib.hid fun V' h => term_as hf a ha (hT.on h) HA1.out
    have HB : Hid (∀ V', Below V.heap.size V V' → Calls Tryz.prog 20 #[.agg #[.int .i64 (B : Int), .int .i64 (P : Int), .int .i64 (W : Int)], .int .u64 (b : Int)] V' (TmX V' g2 i2 d2 x2 e2)) := Lib.hid fun V' h => term_as hf b hb (hT.on h) HB1.out
    have kk : Below V.heap.size V V.drew := (Below.refl _ _).drew
    have kd : Below V.heap.size V (V.alloc (tob false false false none 0 0 0 50)).drew := (below_k (Below.refl _ _) _).drew
    have ke : Below V.heap.size V ((V.alloc (tob false false false none 0 0 0 50)).alloc (tob false false false none 0 0 0 50)).drew := (below_k (below_k (Below.refl _ _) _) _).drew
    clear z0 z6 hT BW sW hf ha hb HA1 HB1
    go_region_held3 (fun w' => w'.cell? ⟨w.heap.size, 0, none⟩ = some (.int .i64 (B : Int)) ∧ w'.cell? ⟨w.heap.size, 1, none⟩ = some (.int .i64 (P : Int)) ∧ w'.cell? ⟨w.heap.size, 2, none⟩ = some (.int .i64 (W : Int)))
      ((refine HS.out _ ?_; (repeat (first | (with_reducible assumption) | (with_reducible refine below_k ?_ _) | (with_reducible refine below_put5 ?_ ?_ _ _ _ _ _) | omega))))
      (first
        | (go_at_call 20
           (with_reducible refine (HA.out _ (by (repeat (first | (with_reducible assumption) | (with_reducible refine below_k ?_ _) | (with_reducible refine below_put5 ?_ ?_ _ _ _ _ _) | omega)))).mono ?_)
           rintro en v1 ⟨V_r1, v_r1, rfl, r1, hb1⟩
           have kk1 : Below V.heap.size V v1 := Below.step (show Below V.heap.size V _ from by (repeat (first | (with_reducible assumption) | (with_reducible refine below_k ?_ _) | (with_reducible refine below_put5 ?_ ?_ _ _ _ _ _) | omega))) hb1
           have hz1 := kk1.size
           first
             | (revert r2; intro r2
                refine cutP (p := Res v1 V_r2 v_r2 x2) (Res.on ?_ hb1) ?_; (repeat (first | (with_reducible assumption) | (with_reducible refine Res.alloc5 ?_ _) | (with_reducible refine Res.put5 ?_ ?_ _ _ _ _ _) | (with_reducible refine TV.alloc ?_ _) | (with_reducible refine TV.other ?_ ?_ _ _ _ _ _) | omega)); intro r2
                first | (refine cutP (p := TB v1 (V.heap.size) 50 g2 i2 d2 V_r2 v_r2 v_r2 e2) (TB.on ?_ hb1) ?_; (repeat (first | (with_reducible assumption) | (with_reducible exact TB.made _ rfl _ _ _ _ _ _ _ _) | (with_reducible exact TB.made _ (size_alloc1 _ _) _ _ _ _ _ _ _ _) | (with_reducible exact TB.made _ (put5_size _ _ _ _ _ _ _) _ _ _ _ _ _ _ _) | (with_reducible exact TB.made _ (size_pa _ _ _ _ _ _ _ _) _ _ _ _ _ _ _ _) | (with_reducible exact TB.made _ (size_ap _ _ _ _ _ _ _ _) _ _ _ _ _ _ _ _) | (with_reducible refine TB.alloc ?_ _) | (with_reducible refine TB.drew ?_) | (with_reducible refine TB.put' ?_ _ _ _ _ _ _ _) | (with_reducible refine TV.alloc ?_ _) | (with_reducible refine TV.other ?_ ?_ _ _ _ _ _) | (with_reducible refine TB.other ?_ ?_ _ _ _ _ _) | omega)); intro zA; obtain ⟨zAc0, zAc1, zAc2, zAc3, zAc4, zAf0, zAf1, zAf2, zAf3, zAf4, zAl⟩ := TB.cells zA; have tA := TV.of zA) | (refine cutP (p := TB v1 (V.heap.size) 50 false false false none 0 0 0) (TB.on ?_ hb1) ?_; (repeat (first | (with_reducible assumption) | (with_reducible exact TB.made _ rfl _ _ _ _ _ _ _ _) | (with_reducible exact TB.made _ (size_alloc1 _ _) _ _ _ _ _ _ _ _) | (with_reducible exact TB.made _ (put5_size _ _ _ _ _ _ _) _ _ _ _ _ _ _ _) | (with_reducible exact TB.made _ (size_pa _ _ _ _ _ _ _ _) _ _ _ _ _ _ _ _) | (with_reducible exact TB.made _ (size_ap _ _ _ _ _ _ _ _) _ _ _ _ _ _ _ _) | (with_reducible refine TB.alloc ?_ _) | (with_reducible refine TB.drew ?_) | (with_reducible refine TB.put' ?_ _ _ _ _ _ _ _) | (with_reducible refine TV.alloc ?_ _) | (with_reducible refine TV.other ?_ ?_ _ _ _ _ _) | (with_reducible refine TB.other ?_ ?_ _ _ _ _ _) | omega)); intro zA; obtain ⟨zAc0, zAc1, zAc2, zAc3, zAc4, zAf0, zAf1, zAf2, zAf3, zAf4, zAl⟩ := TB.cells zA; have tA := TV.of zA) | skip
                first | (refine cutP (p := TB v1 (V.heap.size + 1) 50 g2 i2 d2 V_r2 v_r2 v_r2 e2) (TB.on ?_ hb1) ?_; (repeat (first | (with_reducible assumption) | (with_reducible exact TB.made _ rfl _ _ _ _ _ _ _ _) | (with_reducible exact TB.made _ (size_alloc1 _ _) _ _ _ _ _ _ _ _) | (with_reducible exact TB.made _ (put5_size _ _ _ _ _ _ _) _ _ _ _ _ _ _ _) | (with_reducible exact TB.made _ (size_pa _ _ _ _ _ _ _ _) _ _ _ _ _ _ _ _) | (with_reducible exact TB.made _ (size_ap _ _ _ _ _ _ _ _) _ _ _ _ _ _ _ _) | (with_reducible refine TB.alloc ?_ _) | (with_reducible refine TB.drew ?_) | (with_reducible refine TB.put' ?_ _ _ _ _ _ _ _) | (with_reducible refine TV.alloc ?_ _) | (with_reducible refine TV.other ?_ ?_ _ _ _ _ _) | (with_reducible refine TB.other ?_ ?_ _ _ _ _ _) | omega)); intro zB; obtain ⟨zBc0, zBc1, zBc2, zBc3, zBc4, zBf0, zBf1, zBf2, zBf3, zBf4, zBl⟩ := TB.cells zB; have tB := TV.of zB) | (refine cutP (p := TB v1 (V.heap.size + 1) 50 false false false none 0 0 0) (TB.on ?_ hb1) ?_; (repeat (first | (with_reducible assumption) | (with_reducible exact TB.made _ rfl _ _ _ _ _ _ _ _) | (with_reducible exact TB.made _ (size_alloc1 _ _) _ _ _ _ _ _ _ _) | (with_reducible exact TB.made _ (put5_size _ _ _ _ _ _ _) _ _ _ _ _ _ _ _) | (with_reducible exact TB.made _ (size_pa _ _ _ _ _ _ _ _) _ _ _ _ _ _ _ _) | (with_reducible exact TB.made _ (size_ap _ _ _ _ _ _ _ _) _ _ _ _ _ _ _ _) | (with_reducible refine TB.alloc ?_ _) | (with_reducible refine TB.drew ?_) | (with_reducible refine TB.put' ?_ _ _ _ _ _ _ _) | (with_reducible refine TV.alloc ?_ _) | (with_reducible refine TV.other ?_ ?_ _ _ _ _ _) | (with_reducible refine TB.other ?_ ?_ _ _ _ _ _) | omega)); intro zB; obtain ⟨zBc0, zBc1, zBc2, zBc3, zBc4, zBf0, zBf1, zBf2, zBf3, zBf4, zBl⟩ := TB.cells zB; have tB := TV.of zB) | skip
                first | (refine cutP (p := TB v1 (v2.heap.size) 50 g2 i2 d2 V_r2 v_r2 v_r2 e2) (TB.on ?_ hb1) ?_; (repeat (first | (with_reducible assumption) | (with_reducible exact TB.made _ rfl _ _ _ _ _ _ _ _) | (with_reducible exact TB.made _ (size_alloc1 _ _) _ _ _ _ _ _ _ _) | (with_reducible exact TB.made _ (put5_size _ _ _ _ _ _ _) _ _ _ _ _ _ _ _) | (with_reducible exact TB.made _ (size_pa _ _ _ _ _ _ _ _) _ _ _ _ _ _ _ _) | (with_reducible exact TB.made _ (size_ap _ _ _ _ _ _ _ _) _ _ _ _ _ _ _ _) | (with_reducible refine TB.alloc ?_ _) | (with_reducible refine TB.drew ?_) | (with_reducible refine TB.put' ?_ _ _ _ _ _ _ _) | (with_reducible refine TV.alloc ?_ _) | (with_reducible refine TV.other ?_ ?_ _ _ _ _ _) | (with_reducible refine TB.other ?_ ?_ _ _ _ _ _) | omega)); intro zC; obtain ⟨zCc0, zCc1, zCc2, zCc3, zCc4, zCf0, zCf1, zCf2, zCf3, zCf4, zCl⟩ := TB.cells zC; have tC := TV.of zC) | (refine cutP (p := TB v1 (v2.heap.size) 50 false false false none 0 0 0) (TB.on ?_ hb1) ?_; (repeat (first | (with_reducible assumption) | (with_reducible exact TB.made _ rfl _ _ _ _ _ _ _ _) | (with_reducible exact TB.made _ (size_alloc1 _ _) _ _ _ _ _ _ _ _) | (with_reducible exact TB.made _ (put5_size _ _ _ _ _ _ _) _ _ _ _ _ _ _ _) | (with_reducible exact TB.made _ (size_pa _ _ _ _ _ _ _ _) _ _ _ _ _ _ _ _) | (with_reducible exact TB.made _ (size_ap _ _ _ _ _ _ _ _) _ _ _ _ _ _ _ _) | (with_reducible refine TB.alloc ?_ _) | (with_reducible refine TB.drew ?_) | (with_reducible refine TB.put' ?_ _ _ _ _ _ _ _) | (with_reducible refine TV.alloc ?_ _) | (with_reducible refine TV.other ?_ ?_ _ _ _ _ _) | (with_reducible refine TB.other ?_ ?_ _ _ _ _ _) | omega)); intro zC; obtain ⟨zCc0, zCc1, zCc2, zCc3, zCc4, zCf0, zCf1, zCf2, zCf3, zCf4, zCl⟩ := TB.cells zC; have tC := TV.of zC) | skip
                first | (refine cutP (p := TB v1 (v2.heap.size + 1) 50 g2 i2 d2 V_r2 v_r2 v_r2 e2) (TB.on ?_ hb1) ?_; (repeat (first | (with_reducible assumption) | (with_reducible exact TB.made _ rfl _ _ _ _ _ _ _ _) | (with_reducible exact TB.made _ (size_alloc1 _ _) _ _ _ _ _ _ _ _) | (with_reducible exact TB.made _ (put5_size _ _ _ _ _ _ _) _ _ _ _ _ _ _ _) | (with_reducible exact TB.made _ (size_pa _ _ _ _ _ _ _ _) _ _ _ _ _ _ _ _) | (with_reducible exact TB.made _ (size_ap _ _ _ _ _ _ _ _) _ _ _ _ _ _ _ _) | (with_reducible refine TB.alloc ?_ _) | (with_reducible refine TB.drew ?_) | (with_reducible refine TB.put' ?_ _ _ _ _ _ _ _) | (with_reducible refine TV.alloc ?_ _) | (with_reducible refine TV.other ?_ ?_ _ _ _ _ _) | (with_reducible refine TB.other ?_ ?_ _ _ _ _ _) | omega)); intro zD; obtain ⟨zDc0, zDc1, zDc2, zDc3, zDc4, zDf0, zDf1, zDf2, zDf3, zDf4, zDl⟩ := TB.cells zD; have tD := TV.of zD) | (refine cutP (p := TB v1 (v2.heap.size + 1) 50 false false false none 0 0 0) (TB.on ?_ hb1) ?_; (repeat (first | (with_reducible assumption) | (with_reducible exact TB.made _ rfl _ _ _ _ _ _ _ _) | (with_reducible exact TB.made _ (size_alloc1 _ _) _ _ _ _ _ _ _ _) | (with_reducible exact TB.made _ (put5_size _ _ _ _ _ _ _) _ _ _ _ _ _ _ _) | (with_reducible exact TB.made _ (size_pa _ _ _ _ _ _ _ _) _ _ _ _ _ _ _ _) | (with_reducible exact TB.made _ (size_ap _ _ _ _ _ _ _ _) _ _ _ _ _ _ _ _) | (with_reducible refine TB.alloc ?_ _) | (with_reducible refine TB.drew ?_) | (with_reducible refine TB.put' ?_ _ _ _ _ _ _ _) | (with_reducible refine TV.alloc ?_ _) | (with_reducible refine TV.other ?_ ?_ _ _ _ _ _) | (with_reducible refine TB.other ?_ ?_ _ _ _ _ _) | omega)); intro zD; obtain ⟨zDc0, zDc1, zDc2, zDc3, zDc4, zDf0, zDf1, zDf2, zDf3, zDf4, zDl⟩ := TB.cells zD; have tD := TV.of zD) | skip
                clear hb1)
             | (first | (refine cutP (p := TB v1 (V.heap.size) 50 false false false none 0 0 0) (TB.on ?_ hb1) ?_; (repeat (first | (with_reducible assumption) | (with_reducible exact TB.made _ rfl _ _ _ _ _ _ _ _) | (with_reducible exact TB.made _ (size_alloc1 _ _) _ _ _ _ _ _ _ _) | (with_reducible exact TB.made _ (put5_size _ _ _ _ _ _ _) _ _ _ _ _ _ _ _) | (with_reducible exact TB.made _ (size_pa _ _ _ _ _ _ _ _) _ _ _ _ _ _ _ _) | (with_reducible exact TB.made _ (size_ap _ _ _ _ _ _ _ _) _ _ _ _ _ _ _ _) | (with_reducible refine TB.alloc ?_ _) | (with_reducible refine TB.drew ?_) | (with_reducible refine TB.put' ?_ _ _ _ _ _ _ _) | (with_reducible refine TV.alloc ?_ _) | (with_reducible refine TV.other ?_ ?_ _ _ _ _ _) | (with_reducible refine TB.other ?_ ?_ _ _ _ _ _) | omega)); intro zA; obtain ⟨zAc0, zAc1, zAc2, zAc3, zAc4, zAf0, zAf1, zAf2, zAf3, zAf4, zAl⟩ := TB.cells zA; have tA := TV.of zA) | skip
                first | (refine cutP (p := TB v1 (V.heap.size + 1) 50 false false false none 0 0 0) (TB.on ?_ hb1) ?_; (repeat (first | (with_reducible assumption) | (with_reducible exact TB.made _ rfl _ _ _ _ _ _ _ _) | (with_reducible exact TB.made _ (size_alloc1 _ _) _ _ _ _ _ _ _ _) | (with_reducible exact TB.made _ (put5_size _ _ _ _ _ _ _) _ _ _ _ _ _ _ _) | (with_reducible exact TB.made _ (size_pa _ _ _ _ _ _ _ _) _ _ _ _ _ _ _ _) | (with_reducible exact TB.made _ (size_ap _ _ _ _ _ _ _ _) _ _ _ _ _ _ _ _) | (with_reducible refine TB.alloc ?_ _) | (with_reducible refine TB.drew ?_) | (with_reducible refine TB.put' ?_ _ _ _ _ _ _ _) | (with_reducible refine TV.alloc ?_ _) | (with_reducible refine TV.other ?_ ?_ _ _ _ _ _) | (with_reducible refine TB.other ?_ ?_ _ _ _ _ _) | omega)); intro zB; obtain ⟨zBc0, zBc1, zBc2, zBc3, zBc4, zBf0, zBf1, zBf2, zBf3, zBf4, zBl⟩ := TB.cells zB; have tB := TV.of zB) | skip
                clear hb1))
        | (go_at_call 20
           (with_reducible refine (HB.out _ (by (repeat (first | (with_reducible assumption) | (with_reducible refine below_k ?_ _) | (with_reducible refine below_put5 ?_ ?_ _ _ _ _ _) | omega)))).mono ?_)
           rintro en v2 ⟨V_r2, v_r2, rfl, r2, hb2⟩
           have kk2 : Below V.heap.size V v2 := Below.step (show Below V.heap.size V _ from by (repeat (first | (with_reducible assumption) | (with_reducible refine below_k ?_ _) | (with_reducible refine below_put5 ?_ ?_ _ _ _ _ _) | omega))) hb2
           have hz2 := kk2.size
           first
             | (revert r1; intro r1
                refine cutP (p := Res v2 V_r1 v_r1 x1) (Res.on ?_ hb2) ?_; (repeat (first | (with_reducible assumption) | (with_reducible refine Res.alloc5 ?_ _) | (with_reducible refine Res.put5 ?_ ?_ _ _ _ _ _) | (with_reducible refine TV.alloc ?_ _) | (with_reducible refine TV.other ?_ ?_ _ _ _ _ _) | omega)); intro r1
                first | (refine cutP (p := TB v2 (V.heap.size) 50 g1 i1 d1 V_r1 v_r1 v_r1 e1) (TB.on ?_ hb2) ?_; (repeat (first | (with_reducible assumption) | (with_reducible exact TB.made _ rfl _ _ _ _ _ _ _ _) | (with_reducible exact TB.made _ (size_alloc1 _ _) _ _ _ _ _ _ _ _) | (with_reducible exact TB.made _ (put5_size _ _ _ _ _ _ _) _ _ _ _ _ _ _ _) | (with_reducible exact TB.made _ (size_pa _ _ _ _ _ _ _ _) _ _ _ _ _ _ _ _) | (with_reducible exact TB.made _ (size_ap _ _ _ _ _ _ _ _) _ _ _ _ _ _ _ _) | (with_reducible refine TB.alloc ?_ _) | (with_reducible refine TB.drew ?_) | (with_reducible refine TB.put' ?_ _ _ _ _ _ _ _) | (with_reducible refine TV.alloc ?_ _) | (with_reducible refine TV.other ?_ ?_ _ _ _ _ _) | (with_reducible refine TB.other ?_ ?_ _ _ _ _ _) | omega)); intro zA; obtain ⟨zAc0, zAc1, zAc2, zAc3, zAc4, zAf0, zAf1, zAf2, zAf3, zAf4, zAl⟩ := TB.cells zA; have tA := TV.of zA) | (refine cutP (p := TB v2 (V.heap.size) 50 false false false none 0 0 0) (TB.on ?_ hb2) ?_; (repeat (first | (with_reducible assumption) | (with_reducible exact TB.made _ rfl _ _ _ _ _ _ _ _) | (with_reducible exact TB.made _ (size_alloc1 _ _) _ _ _ _ _ _ _ _) | (with_reducible exact TB.made _ (put5_size _ _ _ _ _ _ _) _ _ _ _ _ _ _ _) | (with_reducible exact TB.made _ (size_pa _ _ _ _ _ _ _ _) _ _ _ _ _ _ _ _) | (with_reducible exact TB.made _ (size_ap _ _ _ _ _ _ _ _) _ _ _ _ _ _ _ _) | (with_reducible refine TB.alloc ?_ _) | (with_reducible refine TB.drew ?_) | (with_reducible refine TB.put' ?_ _ _ _ _ _ _ _) | (with_reducible refine TV.alloc ?_ _) | (with_reducible refine TV.other ?_ ?_ _ _ _ _ _) | (with_reducible refine TB.other ?_ ?_ _ _ _ _ _) | omega)); intro zA; obtain ⟨zAc0, zAc1, zAc2, zAc3, zAc4, zAf0, zAf1, zAf2, zAf3, zAf4, zAl⟩ := TB.cells zA; have tA := TV.of zA) | skip
                first | (refine cutP (p := TB v2 (V.heap.size + 1) 50 g1 i1 d1 V_r1 v_r1 v_r1 e1) (TB.on ?_ hb2) ?_; (repeat (first | (with_reducible assumption) | (with_reducible exact TB.made _ rfl _ _ _ _ _ _ _ _) | (with_reducible exact TB.made _ (size_alloc1 _ _) _ _ _ _ _ _ _ _) | (with_reducible exact TB.made _ (put5_size _ _ _ _ _ _ _) _ _ _ _ _ _ _ _) | (with_reducible exact TB.made _ (size_pa _ _ _ _ _ _ _ _) _ _ _ _ _ _ _ _) | (with_reducible exact TB.made _ (size_ap _ _ _ _ _ _ _ _) _ _ _ _ _ _ _ _) | (with_reducible refine TB.alloc ?_ _) | (with_reducible refine TB.drew ?_) | (with_reducible refine TB.put' ?_ _ _ _ _ _ _ _) | (with_reducible refine TV.alloc ?_ _) | (with_reducible refine TV.other ?_ ?_ _ _ _ _ _) | (with_reducible refine TB.other ?_ ?_ _ _ _ _ _) | omega)); intro zB; obtain ⟨zBc0, zBc1, zBc2, zBc3, zBc4, zBf0, zBf1, zBf2, zBf3, zBf4, zBl⟩ := TB.cells zB; have tB := TV.of zB) | (refine cutP (p := TB v2 (V.heap.size + 1) 50 false false false none 0 0 0) (TB.on ?_ hb2) ?_; (repeat (first | (with_reducible assumption) | (with_reducible exact TB.made _ rfl _ _ _ _ _ _ _ _) | (with_reducible exact TB.made _ (size_alloc1 _ _) _ _ _ _ _ _ _ _) | (with_reducible exact TB.made _ (put5_size _ _ _ _ _ _ _) _ _ _ _ _ _ _ _) | (with_reducible exact TB.made _ (size_pa _ _ _ _ _ _ _ _) _ _ _ _ _ _ _ _) | (with_reducible exact TB.made _ (size_ap _ _ _ _ _ _ _ _) _ _ _ _ _ _ _ _) | (with_reducible refine TB.alloc ?_ _) | (with_reducible refine TB.drew ?_) | (with_reducible refine TB.put' ?_ _ _ _ _ _ _ _) | (with_reducible refine TV.alloc ?_ _) | (with_reducible refine TV.other ?_ ?_ _ _ _ _ _) | (with_reducible refine TB.other ?_ ?_ _ _ _ _ _) | omega)); intro zB; obtain ⟨zBc0, zBc1, zBc2, zBc3, zBc4, zBf0, zBf1, zBf2, zBf3, zBf4, zBl⟩ := TB.cells zB; have tB := TV.of zB) | skip
                first | (refine cutP (p := TB v2 (v1.heap.size) 50 g1 i1 d1 V_r1 v_r1 v_r1 e1) (TB.on ?_ hb2) ?_; (repeat (first | (with_reducible assumption) | (with_reducible exact TB.made _ rfl _ _ _ _ _ _ _ _) | (with_reducible exact TB.made _ (size_alloc1 _ _) _ _ _ _ _ _ _ _) | (with_reducible exact TB.made _ (put5_size _ _ _ _ _ _ _) _ _ _ _ _ _ _ _) | (with_reducible exact TB.made _ (size_pa _ _ _ _ _ _ _ _) _ _ _ _ _ _ _ _) | (with_reducible exact TB.made _ (size_ap _ _ _ _ _ _ _ _) _ _ _ _ _ _ _ _) | (with_reducible refine TB.alloc ?_ _) | (with_reducible refine TB.drew ?_) | (with_reducible refine TB.put' ?_ _ _ _ _ _ _ _) | (with_reducible refine TV.alloc ?_ _) | (with_reducible refine TV.other ?_ ?_ _ _ _ _ _) | (with_reducible refine TB.other ?_ ?_ _ _ _ _ _) | omega)); intro zC; obtain ⟨zCc0, zCc1, zCc2, zCc3, zCc4, zCf0, zCf1, zCf2, zCf3, zCf4, zCl⟩ := TB.cells zC; have tC := TV.of zC) | (refine cutP (p := TB v2 (v1.heap.size) 50 false false false none 0 0 0) (TB.on ?_ hb2) ?_; (repeat (first | (with_reducible assumption) | (with_reducible exact TB.made _ rfl _ _ _ _ _ _ _ _) | (with_reducible exact TB.made _ (size_alloc1 _ _) _ _ _ _ _ _ _ _) | (with_reducible exact TB.made _ (put5_size _ _ _ _ _ _ _) _ _ _ _ _ _ _ _) | (with_reducible exact TB.made _ (size_pa _ _ _ _ _ _ _ _) _ _ _ _ _ _ _ _) | (with_reducible exact TB.made _ (size_ap _ _ _ _ _ _ _ _) _ _ _ _ _ _ _ _) | (with_reducible refine TB.alloc ?_ _) | (with_reducible refine TB.drew ?_) | (with_reducible refine TB.put' ?_ _ _ _ _ _ _ _) | (with_reducible refine TV.alloc ?_ _) | (with_reducible refine TV.other ?_ ?_ _ _ _ _ _) | (with_reducible refine TB.other ?_ ?_ _ _ _ _ _) | omega)); intro zC; obtain ⟨zCc0, zCc1, zCc2, zCc3, zCc4, zCf0, zCf1, zCf2, zCf3, zCf4, zCl⟩ := TB.cells zC; have tC := TV.of zC) | skip
                first | (refine cutP (p := TB v2 (v1.heap.size + 1) 50 g1 i1 d1 V_r1 v_r1 v_r1 e1) (TB.on ?_ hb2) ?_; (repeat (first | (with_reducible assumption) | (with_reducible exact TB.made _ rfl _ _ _ _ _ _ _ _) | (with_reducible exact TB.made _ (size_alloc1 _ _) _ _ _ _ _ _ _ _) | (with_reducible exact TB.made _ (put5_size _ _ _ _ _ _ _) _ _ _ _ _ _ _ _) | (with_reducible exact TB.made _ (size_pa _ _ _ _ _ _ _ _) _ _ _ _ _ _ _ _) | (with_reducible exact TB.made _ (size_ap _ _ _ _ _ _ _ _) _ _ _ _ _ _ _ _) | (with_reducible refine TB.alloc ?_ _) | (with_reducible refine TB.drew ?_) | (with_reducible refine TB.put' ?_ _ _ _ _ _ _ _) | (with_reducible refine TV.alloc ?_ _) | (with_reducible refine TV.other ?_ ?_ _ _ _ _ _) | (with_reducible refine TB.other ?_ ?_ _ _ _ _ _) | omega)); intro zD; obtain ⟨zDc0, zDc1, zDc2, zDc3, zDc4, zDf0, zDf1, zDf2, zDf3, zDf4, zDl⟩ := TB.cells zD; have tD := TV.of zD) | (refine cutP (p := TB v2 (v1.heap.size + 1) 50 false false false none 0 0 0) (TB.on ?_ hb2) ?_; (repeat (first | (with_reducible assumption) | (with_reducible exact TB.made _ rfl _ _ _ _ _ _ _ _) | (with_reducible exact TB.made _ (size_alloc1 _ _) _ _ _ _ _ _ _ _) | (with_reducible exact TB.made _ (put5_size _ _ _ _ _ _ _) _ _ _ _ _ _ _ _) | (with_reducible exact TB.made _ (size_pa _ _ _ _ _ _ _ _) _ _ _ _ _ _ _ _) | (with_reducible exact TB.made _ (size_ap _ _ _ _ _ _ _ _) _ _ _ _ _ _ _ _) | (with_reducible refine TB.alloc ?_ _) | (with_reducible refine TB.drew ?_) | (with_reducible refine TB.put' ?_ _ _ _ _ _ _ _) | (with_reducible refine TV.alloc ?_ _) | (with_reducible refine TV.other ?_ ?_ _ _ _ _ _) | (with_reducible refine TB.other ?_ ?_ _ _ _ _ _) | omega)); intro zD; obtain ⟨zDc0, zDc1, zDc2, zDc3, zDc4, zDf0, zDf1, zDf2, zDf3, zDf4, zDl⟩ := TB.cells zD; have tD := TV.of zD) | skip
                clear hb2)
             | (first | (refine cutP (p := TB v2 (V.heap.size) 50 false false false none 0 0 0) (TB.on ?_ hb2) ?_; (repeat (first | (with_reducible assumption) | (with_reducible exact TB.made _ rfl _ _ _ _ _ _ _ _) | (with_reducible exact TB.made _ (size_alloc1 _ _) _ _ _ _ _ _ _ _) | (with_reducible exact TB.made _ (put5_size _ _ _ _ _ _ _) _ _ _ _ _ _ _ _) | (with_reducible exact TB.made _ (size_pa _ _ _ _ _ _ _ _) _ _ _ _ _ _ _ _) | (with_reducible exact TB.made _ (size_ap _ _ _ _ _ _ _ _) _ _ _ _ _ _ _ _) | (with_reducible refine TB.alloc ?_ _) | (with_reducible refine TB.drew ?_) | (with_reducible refine TB.put' ?_ _ _ _ _ _ _ _) | (with_reducible refine TV.alloc ?_ _) | (with_reducible refine TV.other ?_ ?_ _ _ _ _ _) | (with_reducible refine TB.other ?_ ?_ _ _ _ _ _) | omega)); intro zA; obtain ⟨zAc0, zAc1, zAc2, zAc3, zAc4, zAf0, zAf1, zAf2, zAf3, zAf4, zAl⟩ := TB.cells zA; have tA := TV.of zA) | skip
                first | (refine cutP (p := TB v2 (V.heap.size + 1) 50 false false false none 0 0 0) (TB.on ?_ hb2) ?_; (repeat (first | (with_reducible assumption) | (with_reducible exact TB.made _ rfl _ _ _ _ _ _ _ _) | (with_reducible exact TB.made _ (size_alloc1 _ _) _ _ _ _ _ _ _ _) | (with_reducible exact TB.made _ (put5_size _ _ _ _ _ _ _) _ _ _ _ _ _ _ _) | (with_reducible exact TB.made _ (size_pa _ _ _ _ _ _ _ _) _ _ _ _ _ _ _ _) | (with_reducible exact TB.made _ (size_ap _ _ _ _ _ _ _ _) _ _ _ _ _ _ _ _) | (with_reducible refine TB.alloc ?_ _) | (with_reducible refine TB.drew ?_) | (with_reducible refine TB.put' ?_ _ _ _ _ _ _ _) | (with_reducible refine TV.alloc ?_ _) | (with_reducible refine TV.other ?_ ?_ _ _ _ _ _) | (with_reducible refine TB.other ?_ ?_ _ _ _ _ _) | omega)); intro zB; obtain ⟨zBc0, zBc1, zBc2, zBc3, zBc4, zBf0, zBf1, zBf2, zBf3, zBf4, zBl⟩ := TB.cells zB; have tB := TV.of zB) | skip
                clear hb2)))
    all_goals go_wp2_with fail
    all_goals go_meet
    all_goals (
      refine ⟨_, _, V_r1, v_r1, V_r2, v_r2, rfl, rfl, ?_, ?_, ?_, ?_, ?_, ?_, ?_⟩
      repeat (first | (with_reducible assumption) | (with_reducible exact TB.made _ rfl _ _ _ _ _ _ _ _) | (with_reducible exact TB.made _ (size_alloc1 _ _) _ _ _ _ _ _ _ _) | (with_reducible exact TB.made _ (put5_size _ _ _ _ _ _ _) _ _ _ _ _ _ _ _) | (with_reducible exact TB.made _ (size_pa _ _ _ _ _ _ _ _) _ _ _ _ _ _ _ _) | (with_reducible exact TB.made _ (size_ap _ _ _ _ _ _ _ _) _ _ _ _ _ _ _ _) | (with_reducible refine TB.alloc ?_ _) | (with_reducible refine TB.put' ?_ _ _ _ _ _ _ _) | (with_reducible refine TV.alloc ?_ _) | (with_reducible refine TV.other ?_ ?_ _ _ _ _ _) | (with_reducible refine TB.other ?_ ?_ _ _ _ _ _) | (with_reducible refine Res.alloc5 ?_ _) | (with_reducible refine Res.put5 ?_ ?_ _ _ _ _ _) | (with_reducible refine below_k ?_ _) | (with_reducible refine below_put5 ?_ ?_ _ _ _ _ _) | (with_reducible exact Nat.le_refl _) | omega))
  case rest =>
    obtain ⟨s7, s8, A1, k1, A2, k2, rfl, rfl, z7, z8, r1, r2, hg1, hg2, b⟩ := hcut
    obtain ⟨w1, rfl⟩ : ∃ w1 : World, w1 = wc := ⟨_, rfl⟩
    replace z0 := z0.on b
    replace z6 := z6.on b
    replace hT := hT.on b
    replace BW := Below.step BW b
    clear b
    have l1 := res_n_le r1 (k := 128) hl1
    have l2 := res_n_le r2 (k := 128) hl2
    have d3 := HN.out
    cases i1
    · obtain rfl : iv = i2 := by simpa using HI.out.symm
      obtain ⟨z0c0, z0c1, z0c2, z0f0, z0f1, z0f2, z0l⟩ := z0.cells
      obtain ⟨z6c0, z6c1, z6c2, z6c3, z6c4, z6f0, z6f1, z6f2, z6f3, z6f4, z6l⟩ := z6.cells
      obtain ⟨z7c0, z7c1, z7c2, z7c3, z7c4, z7f0, z7f1, z7f2, z7f3, z7f4, z7l⟩ := z7.cells
      obtain ⟨z8c0, z8c1, z8c2, z8c3, z8c4, z8f0, z8f1, z8f2, z8f3, z8f4, z8l⟩ := z8.cells
      go_wp2_with fail
      refine (dmul_as (r1.arg (by omega)) (r2.arg (by omega)) (by omega) (by omega) hT HM.out).mono ?_
      rintro en w2 ⟨V_r, v_r, rfl, r, b⟩
      clear z0c0 z0c1 z0c2 z0f0 z0f1 z0f2 z0l z6c0 z6c1 z6c2 z6c3 z6c4 z6f0 z6f1 z6f2 z6f3 z6f4 z6l z7c0 z7c1 z7c2 z7c3 z7c4 z7f0 z7f1 z7f2 z7f3 z7f4 z7l z8c0 z8c1 z8c2 z8c3 z8c4 z8f0 z8f1 z8f2 z8f3 z8f4 z8l
      replace z0 := z0.on b
      replace z6 := z6.on b
      replace hT := hT.on b
      replace z7 := z7.on b
      replace z8 := z8.on b
      replace r1 := r1.on b
      replace r2 := r2.on b
      replace BW := Below.step BW b
      clear b
      have lz := z6.cells.2.2.2.2.2.2.2.2.2.2
      obtain ⟨z0c0, z0c1, z0c2, z0f0, z0f1, z0f2, z0l⟩ := z0.cells
      obtain ⟨z6c0, z6c1, z6c2, z6c3, z6c4, z6f0, z6f1, z6f2, z6f3, z6f4, z6l⟩ := z6.cells
      obtain ⟨z7c0, z7c1, z7c2, z7c3, z7c4, z7f0, z7f1, z7f2, z7f3, z7f4, z7l⟩ := z7.cells
      obtain ⟨z8c0, z8c1, z8c2, z8c3, z8c4, z8f0, z8f1, z8f2, z8f3, z8f4, z8l⟩ := z8.cells
      go_upto_region 3 with fail
      clear z0c0 z0c1 z0c2 z0f0 z0f1 z0f2 z0l z6c0 z6c1 z6c2 z6c3 z6c4 z6f0 z6f1 z6f2 z6f3 z6f4 z6l z7c0 z7c1 z7c2 z7c3 z7c4 z7f0 z7f1 z7f2 z7f3 z7f4 z7l z8c0 z8c1 z8c2 z8c3 z8c4 z8f0 z8f1 z8f2 z8f3 z8f4 z8l
      obtain ⟨w3, e_w3⟩ : ∃ w', w2.alloc (dob rn V_r v_r v_r re 48) = w' := ⟨_, rfl⟩
      have b : Below w2.heap.size w2 w3 := e_w3 ▸ below_lit _ _
      have hs_w3 : w3.heap.size = w2.heap.size + 1 := e_w3 ▸ size_lit w2 _ rfl
      have zd : DB w3 w2.heap.size 48 rn V_r v_r v_r re := e_w3 ▸ DB.made w2 rfl 48 rn V_r v_r v_r re
      rw [e_w3]
      clear e_w3
      replace z0 := z0.on b
      replace z6 := z6.on b
      replace hT := hT.on b
      replace z7 := z7.on b
      replace z8 := z8.on b
      replace r1 := r1.on b
      replace r2 := r2.on b
      replace r := r.on b
      replace BW := Below.step BW b
      clear b
      clear hs_w3
      have n2 : w2.heap.size ≠ w.heap.size + 1 := by omega
      have n3 : w.heap.size + 1 ≠ w2.heap.size := by omega
      have n4 : s7 ≠ w.heap.size + 1 := by omega
      have n5 : s8 ≠ w.heap.size + 1 := by omega
      obtain ⟨z6c0, z6c1, z6c2, z6c3, z6c4, z6f0, z6f1, z6f2, z6f3, z6f4, z6l⟩ := z6.cells
      obtain ⟨z7c0, z7c1, z7c2, z7c3, z7c4, z7f0, z7f1, z7f2, z7f3, z7f4, z7l⟩ := z7.cells
      obtain ⟨z8c0, z8c1, z8c2, z8c3, z8c4, z8f0, z8f1, z8f2, z8f3, z8f4, z8l⟩ := z8.cells
      obtain ⟨zdc0, zdc1, zdc2, zdf0, zdf1, zdf2, zdl⟩ := zd.cells
      go_wp2_with fail
      clear z6c0 z6c1 z6c2 z6c3 z6c4 z6f0 z6f1 z6f2 z6f3 z6f4 z6l z7c0 z7c1 z7c2 z7c3 z7c4 z7f0 z7f1 z7f2 z7f3 z7f4 z7l z8c0 z8c1 z8c2 z8c3 z8c4 z8f0 z8f1 z8f2 z8f3 z8f4 z8l zdc0 zdc1 zdc2 zdf0 zdf1 zdf2 zdl
      have y4 := z6.put (!nx) iv rn V_r v_r v_r re
      have yl := z6.res r (.bool (!nx)) (.bool iv) (.bool rn) (.slice V_r v_r v_r) (.int .i64 re)
      have yb := below_put5 BW (show w.heap.size ≤ w.heap.size + 1 by omega) (.bool (!nx)) (.bool iv) (.bool rn) (.slice V_r v_r v_r) (.int .i64 re)
      obtain ⟨p0, p1, p2, p3, p4, _⟩ := y4.cells
      refine bodyPost_ret (v := .agg #[.bool (!nx), .bool iv, .bool rn, .slice V_r v_r v_r, .int .i64 re]) (by simp [results, Tryz.results28, go_sem, p0, p1, p2, p3, p4]) rfl ?_
      exact ⟨_, _, rfl, yl, yb⟩
    · obtain rfl : iv = true := by simpa using HI.out.symm
      obtain ⟨z0c0, z0c1, z0c2, z0f0, z0f1, z0f2, z0l⟩ := z0.cells
      obtain ⟨z6c0, z6c1, z6c2, z6c3, z6c4, z6f0, z6f1, z6f2, z6f3, z6f4, z6l⟩ := z6.cells
      obtain ⟨z7c0, z7c1, z7c2, z7c3, z7c4, z7f0, z7f1, z7f2, z7f3, z7f4, z7l⟩ := z7.cells
      obtain ⟨z8c0, z8c1, z8c2, z8c3, z8c4, z8f0, z8f1, z8f2, z8f3, z8f4, z8l⟩ := z8.cells
      go_wp2_with fail
      refine (dmul_as (r1.arg (by omega)) (r2.arg (by omega)) (by omega) (by omega) hT HM.out).mono ?_
      rintro en w2 ⟨V_r, v_r, rfl, r, b⟩
      clear z0c0 z0c1 z0c2 z0f0 z0f1 z0f2 z0l z6c0 z6c1 z6c2 z6c3 z6c4 z6f0 z6f1 z6f2 z6f3 z6f4 z6l z7c0 z7c1 z7c2 z7c3 z7c4 z7f0 z7f1 z7f2 z7f3 z7f4 z7l z8c0 z8c1 z8c2 z8c3 z8c4 z8f0 z8f1 z8f2 z8f3 z8f4 z8l
      replace z0 := z0.on b
      replace z6 := z6.on b
      replace hT := hT.on b
      replace z7 := z7.on b
      replace z8 := z8.on b
      replace r1 := r1.on b
      replace r2 := r2.on b
      replace BW := Below.step BW b
      clear b
      have lz := z6.cells.2.2.2.2.2.2.2.2.2.2
      obtain ⟨z0c0, z0c1, z0c2, z0f0, z0f1, z0f2, z0l⟩ := z0.cells
      obtain ⟨z6c0, z6c1, z6c2, z6c3, z6c4, z6f0, z6f1, z6f2, z6f3, z6f4, z6l⟩ := z6.cells
      obtain ⟨z7c0, z7c1, z7c2, z7c3, z7c4, z7f0, z7f1, z7f2, z7f3, z7f4, z7l⟩ := z7.cells
      obtain ⟨z8c0, z8c1, z8c2, z8c3, z8c4, z8f0, z8f1, z8f2, z8f3, z8f4, z8l⟩ := z8.cells
      go_upto_region 3 with fail
      clear z0c0 z0c1 z0c2 z0f0 z0f1 z0f2 z0l z6c0 z6c1 z6c2 z6c3 z6c4 z6f0 z6f1 z6f2 z6f3 z6f4 z6l z7c0 z7c1 z7c2 z7c3 z7c4 z7f0 z7f1 z7f2 z7f3 z7f4 z7l z8c0 z8c1 z8c2 z8c3 z8c4 z8f0 z8f1 z8f2 z8f3 z8f4 z8l
      obtain ⟨w3, e_w3⟩ : ∃ w', w2.alloc (dob rn V_r v_r v_r re 48) = w' := ⟨_, rfl⟩
      have b : Below w2.heap.size w2 w3 := e_w3 ▸ below_lit _ _
      have hs_w3 : w3.heap.size = w2.heap.size + 1 := e_w3 ▸ size_lit w2 _ rfl
      have zd : DB w3 w2.heap.size 48 rn V_r v_r v_r re := e_w3 ▸ DB.made w2 rfl 48 rn V_r v_r v_r re
      rw [e_w3]
      clear e_w3
      replace z0 := z0.on b
      replace z6 := z6.on b
      replace hT := hT.on b
      replace z7 := z7.on b
      replace z8 := z8.on b
      replace r1 := r1.on b
      replace r2 := r2.on b
      replace r := r.on b
      replace BW := Below.step BW b
      clear b
      clear hs_w3
      have n2 : w2.heap.size ≠ w.heap.size + 1 := by omega
      have n3 : w.heap.size + 1 ≠ w2.heap.size := by omega
      have n4 : s7 ≠ w.heap.size + 1 := by omega
      have n5 : s8 ≠ w.heap.size + 1 := by omega
      obtain ⟨z6c0, z6c1, z6c2, z6c3, z6c4, z6f0, z6f1, z6f2, z6f3, z6f4, z6l⟩ := z6.cells
      obtain ⟨z7c0, z7c1, z7c2, z7c3, z7c4, z7f0, z7f1, z7f2, z7f3, z7f4, z7l⟩ := z7.cells
      obtain ⟨z8c0, z8c1, z8c2, z8c3, z8c4, z8f0, z8f1, z8f2, z8f3, z8f4, z8l⟩ := z8.cells
      obtain ⟨zdc0, zdc1, zdc2, zdf0, zdf1, zdf2, zdl⟩ := zd.cells
      go_wp2_with fail
      clear z6c0 z6c1 z6c2 z6c3 z6c4 z6f0 z6f1 z6f2 z6f3 z6f4 z6l z7c0 z7c1 z7c2 z7c3 z7c4 z7f0 z7f1 z7f2 z7f3 z7f4 z7l z8c0 z8c1 z8c2 z8c3 z8c4 z8f0 z8f1 z8f2 z8f3 z8f4 z8l zdc0 zdc1 zdc2 zdf0 zdf1 zdf2 zdl
      have y4 := z6.put (!nx) true rn V_r v_r v_r re
      have yl := z6.res r (.bool (!nx)) (.bool true) (.bool rn) (.slice V_r v_r v_r) (.int .i64 re)
      have yb := below_put5 BW (show w.heap.size ≤ w.heap.size + 1 by omega) (.bool (!nx)) (.bool true) (.bool rn) (.slice V_r v_r v_r) (.int .i64 re)
      obtain ⟨p0, p1, p2, p3, p4, _⟩ := y4.cells
      refine bodyPost_ret (v := .agg #[.bool (!nx), .bool true, .bool rn, .slice V_r v_r v_r, .int .i64 re]) (by simp [results, Tryz.results28, go_sem, p0, p1, p2, p3, p4]) rfl ?_
      exact ⟨_, _, rfl, yl, yb⟩
end Go.Proofs.YtpachoeignpcbaaGreatDoor
