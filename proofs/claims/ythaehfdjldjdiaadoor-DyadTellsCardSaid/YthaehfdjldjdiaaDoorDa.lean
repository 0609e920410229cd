
/-
  The walks of dyad's isPlace, mayBeTaken, plain, sign, top.
-/
import Derived.Test.YthaehfdjldjdiaaDoorShifts
import Derived.Test.YthaehfdjldjdiaaDoorDmath
import Derived.Deep.RegionHeld3
namespace Go.Proofs.YthaehfdjldjdiaaDoor
open Go.RowKit
set_option linter.unusedVariables false

theorem bcell {W w1 : World} (hb : Below W.heap.size W w1) : (∀ b o, b < W.heap.size → w1.cell? ⟨b, o, none⟩ = W.cell? ⟨b, o, none⟩) ∧ (∀ b o, b < W.heap.size → w1.frozen? ⟨b, o, none⟩ = W.frozen? ⟨b, o, none⟩) :=
  ⟨fun b o h => hb.cell (p := ⟨b, o, none⟩) h, fun b o h => hb.frozen (p := ⟨b, o, none⟩) h⟩

def plB (e : Int) : Bool := decide (-8192 ≤ e) && decide (e ≤ 8192)
theorem plB_iff (e : Int) : plB e = true ↔ -8192 ≤ e ∧ e ≤ 8192 := by unfold plB; simp
theorem isPlace_any (e : Int) (w : World) :
    Calls Tryd.prog 53 #[.int .i64 e] w fun en w' => en = .returned (.bool (plB e)) ∧ w = w' := by
  obtain ⟨b, hb⟩ : ∃ b, plB e = b := ⟨_, rfl⟩
  rw [hb]
  have HB := Lib.hid hb
  clear hb
  by_cases h1 : -8192 ≤ e
  · by_cases h2 : e ≤ 8192
    · obtain rfl : b = true := by rw [← HB.out]; simp [plB, h1, h2]
      have d1 : decide (-8192 ≤ e) = true := decide_eq_true h1
      have d2 : decide (e ≤ 8192) = true := decide_eq_true h2
      go_enter Tryd.func53, Tryd.ntmps53
      go_wp2
      go_ret
      exact ⟨rfl, rfl⟩
    · obtain rfl : b = false := by rw [← HB.out]; simp [plB, h2]
      have d1 : decide (-8192 ≤ e) = true := decide_eq_true h1
      have d2 : decide (e ≤ 8192) = false := decide_eq_false h2
      go_enter Tryd.func53, Tryd.ntmps53
      go_wp2
      go_ret
      exact ⟨rfl, rfl⟩
  · obtain rfl : b = false := by rw [← HB.out]; simp [plB, h1]
    have d1 : decide (-8192 ≤ e) = false := decide_eq_false h1
    go_enter Tryd.func53, Tryd.ntmps53
    go_wp2
    go_ret
    exact ⟨rfl, rfl⟩

theorem ret_bool {a b : Bool} (h : a = b) : Ending.returned (.bool a) = .returned (.bool b) := by rw [h]
theorem Arg.alloc {w : World} {A : Option Addr} {n c x : Nat} (h : Arg w A n c x) (o : Obj) : Arg (w.alloc o) A n c x := h.on (below_lit w o)

theorem may_any {A : Option Addr} {n c x : Nat} {neg : Bool} {e : Int} {w : World} (h : Arg w A n c x) (hs : n ≤ 2000000) :
    Calls Tryd.prog 50 #[.agg #[.bool neg, .slice A n c, .int .i64 e]] w fun en w' => en = .returned (.bool (D.may ⟨neg, x, e⟩)) ∧ Below w.heap.size w w' := by
  have HM := Lib.hid (show D.may ⟨neg, x, e⟩ = (decide (blen x ≤ 4096) && plB e) from rfl)
  have HA := Lib.hid (fun o => len_any (h.alloc o) hs)
  generalize D.may ⟨neg, x, e⟩ = b at *
  generalize blen x = l at *
  obtain ⟨q, hq⟩ : ∃ q, plB e = q := ⟨_, rfl⟩
  rw [hq] at HM
  have HP := Lib.hid (fun W => isPlace_any e W)
  rw [hq] at HP
  clear hq h
  cases q
  · obtain rfl : b = false := by rw [HM.out]; simp
    go_enter Tryd.func50, Tryd.ntmps50
    go_wp2_with (go_at_call 53; refine (HP.out _).mono ?_; rintro e w' ⟨rfl, rfl⟩)
    go_ret
    exact ⟨rfl, below_lit _ _⟩
  · by_cases hl : l ≤ 4096
    · obtain rfl : b = true := by rw [HM.out]; simp [hl]
      go_enter Tryd.func50, Tryd.ntmps50
      go_wp2_with (first
        | (go_at_call 53; refine (HP.out _).mono ?_; rintro e w' ⟨rfl, rfl⟩)
        | (go_at_call 70; refine (HA.out _).mono ?_; rintro e w' ⟨rfl, rfl⟩))
      go_ret
      exact ⟨ret_bool (decide_eq_true (by omega)), below_lit _ _⟩
    · obtain rfl : b = false := by rw [HM.out]; simp [hl]
      go_enter Tryd.func50, Tryd.ntmps50
      go_wp2_with (first
        | (go_at_call 53; refine (HP.out _).mono ?_; rintro e w' ⟨rfl, rfl⟩)
        | (go_at_call 70; refine (HA.out _).mono ?_; rintro e w' ⟨rfl, rfl⟩))
      go_ret
      exact ⟨ret_bool (decide_eq_false (by omega)), below_lit _ _⟩

/-- no part of 32 bits. -/
def NotU (v : Value) : Prop := ∀ z, v ≠ .int .u32 z
theorem notU_bool (b : Bool) : NotU (.bool b) := fun z h => by cases h
theorem notU_slice (A : Option Addr) (n c : Nat) : NotU (.slice A n c) := fun z h => by cases h
theorem notU_int (e : Int) : NotU (.int .i64 e) := fun z h => by injection h with h1 h2; cases h1
theorem NR.put {w : World} {B n : Nat} {A : Option Addr} {xs : List Nat} (h : NR w B A n xs) {p : Addr} {u : Value} (hp : w.cell? p = some u) (hu : NotU u) (v : Value) : NR (w.setCell p v) B A n xs := by
  refine ⟨⟨h.1.1, fun i y hy => ?_⟩, h.2⟩
  obtain ⟨b, off, e, hb, hc⟩ := h.1.2 i y hy
  refine ⟨b, off, e, hb, ?_⟩
  rw [World.cell?_setCell_other]
  · exact hc
  · intro e
    rw [e, hc] at hp
    injection hp with hp
    rw [U_at] at hy
    cases hx : xs[i]? with
    | none => rw [hx] at hy; cases hy
    | some x =>
      rw [hx] at hy
      injection hy with hy
      exact hu _ (hp.symm.trans hy.symm)
theorem size_setCell (w : World) (p : Addr) (v : Value) : (w.setCell p v).heap.size = w.heap.size := by simp [World.setCell]
theorem Res.put {w : World} {A : Option Addr} {n x : Nat} (h : Res w A n x) {p : Addr} {u : Value} (hp : w.cell? p = some u) (hu : NotU u) (v : Value) : Res (w.setCell p v) A n x := by
  obtain ⟨xs, h1, h2, h3⟩ := h
  exact ⟨xs, by rw [size_setCell]; exact h1.put hp hu v, h2, h3⟩
theorem Arg.put {w : World} {A : Option Addr} {n c x : Nat} (h : Arg w A n c x) {p : Addr} {u : Value} (hp : w.cell? p = some u) (hu : NotU u) (v : Value) : Arg (w.setCell p v) A n c x := by
  obtain ⟨xs, h1, h2⟩ := h
  exact ⟨xs, by rw [size_setCell]; exact h1.put hp hu v, h2⟩

/-- block s is a variable of three cells, no part of 32 bits among them. -/
def Box (w : World) (s : Nat) (t : TypeId) (a b c : Value) : Prop := Own w s t [a, b, c] ∧ NotU a ∧ NotU b ∧ NotU c
/-- the variable is written. -/
abbrev put3 (w : World) (s : Nat) (a b c : Value) : World := ((w.setCell ⟨s, 0, none⟩ a).setCell ⟨s, 1, none⟩ b).setCell ⟨s, 2, none⟩ c
theorem Box.cells {w : World} {s : Nat} {t : TypeId} {a b c : Value} (h : Box w s t a b c) :
    w.cell? ⟨s, 0, none⟩ = some a ∧ w.cell? ⟨s, 1, none⟩ = some b ∧ w.cell? ⟨s, 2, none⟩ = some c ∧ w.frozen? ⟨s, 0, none⟩ = false ∧ w.frozen? ⟨s, 1, none⟩ = false ∧ w.frozen? ⟨s, 2, none⟩ = false ∧ s < w.heap.size :=
  ⟨h.1.cell 0, h.1.cell 1, h.1.cell 2, h.1.free 0, h.1.free 1, h.1.free 2, h.1.lt⟩
theorem Box.put {w : World} {s : Nat} {t : TypeId} {a b c : Value} (h : Box w s t a b c) {a' b' c' : Value} (ha : NotU a') (hb : NotU b') (hc : NotU c') : Box (put3 w s a' b' c') s t a' b' c' :=
  ⟨((h.1.put 0 a').put 1 b').put 2 c', ha, hb, hc⟩
theorem Box.below {w w' : World} {B s : Nat} {t : TypeId} {a b c : Value} (h : Box w s t a b c) (hb : Below B w w') (hs : s < B) : Box w' s t a b c := ⟨h.1.below hb hs, h.2⟩
theorem Box.on {w w' : World} {s : Nat} {t : TypeId} {a b c : Value} (h : Box w s t a b c) (hb : Below w.heap.size w w') : Box w' s t a b c := h.below hb h.1.lt
theorem Own.other {w : World} {g s i : Nat} {t : TypeId} {cs : List Value} (h : Own w g t cs) (hs : s ≠ g) (v : Value) : Own (w.setCell ⟨s, i, none⟩ v) g t cs := (Below.heap_setCell w ⟨s, i, none⟩ v g (fun e => hs e.symm)).trans h
theorem Box.other {w : World} {s g : Nat} {t : TypeId} {a b c : Value} (h : Box w g t a b c) (hs : s ≠ g) (a' b' c' : Value) : Box (put3 w s a' b' c') g t a b c :=
  ⟨((h.1.other hs _).other hs _).other hs _, h.2⟩
theorem Box.res {w : World} {s : Nat} {t : TypeId} {a b c : Value} (h : Box w s t a b c) {A : Option Addr} {n x : Nat} (hr : Res w A n x) (a' b' c' : Value) : Res (put3 w s a' b' c') A n x :=
  ((hr.put (h.1.cell 0) h.2.1 a').put ((h.1.put 0 a').cell 1) h.2.2.1 b').put (((h.1.put 0 a').put 1 b').cell 2) h.2.2.2 c'
theorem Box.arg {w : World} {s : Nat} {t : TypeId} {a b c : Value} (h : Box w s t a b c) {A : Option Addr} {n k x : Nat} (hr : Arg w A n k x) (a' b' c' : Value) : Arg (put3 w s a' b' c') A n k x :=
  ((hr.put (h.1.cell 0) h.2.1 a').put ((h.1.put 0 a').cell 1) h.2.2.1 b').put (((h.1.put 0 a').put 1 b').cell 2) h.2.2.2 c'
theorem put3_size (w : World) (s : Nat) (a b c : Value) : (put3 w s a b c).heap.size = w.heap.size := by simp [put3, World.setCell]
theorem below_put3 {B : Nat} {v w : World} (h : Below B v w) {s : Nat} (hs : B ≤ s) (a b c : Value) : Below B v (put3 w s a b c) := ((h.setCell (p := ⟨s, 0, none⟩) hs a).setCell (p := ⟨s, 1, none⟩) hs b).setCell (p := ⟨s, 2, none⟩) hs c
/-- a new variable. -/
theorem Box.made (w : World) (t : TypeId) {a b c : Value} (ha : NotU a) (hb : NotU b) (hc : NotU c) : Box (w.alloc (.cells #[a, b, c] t)) w.heap.size t a b c := ⟨Own.made w t [a, b, c], ha, hb, hc⟩
theorem Box.made_d (w : World) (t : TypeId) (neg : Bool) (A : Option Addr) (n c : Nat) (e : Int) : Box (w.alloc (.cells #[.bool neg, .slice A n c, .int .i64 e] t)) w.heap.size t (.bool neg) (.slice A n c) (.int .i64 e) :=
  Box.made w t (notU_bool _) (notU_slice _ _ _) (notU_int _)
theorem Box.made_d2 (w : World) (o : Obj) (t : TypeId) (neg : Bool) (A : Option Addr) (n c : Nat) (e : Int) : Box ((w.alloc o).alloc (.cells #[.bool neg, .slice A n c, .int .i64 e] t)) (w.heap.size + 1) t (.bool neg) (.slice A n c) (.int .i64 e) := by
  have := Box.made_d (w.alloc o) t neg A n c e
  rwa [show (w.alloc o).heap.size = w.heap.size + 1 by simp] at this
theorem Box.alloc {w : World} {s : Nat} {t : TypeId} {a b c : Value} (h : Box w s t a b c) (o : Obj) : Box (w.alloc o) s t a b c := h.on (below_lit w o)
theorem Box.put_d {w : World} {s : Nat} {t : TypeId} {a b c : Value} (h : Box w s t a b c) (neg : Bool) (A : Option Addr) (n k : Nat) (e : Int) : Box (put3 w s (.bool neg) (.slice A n k) (.int .i64 e)) s t (.bool neg) (.slice A n k) (.int .i64 e) :=
  h.put (notU_bool _) (notU_slice _ _ _) (notU_int _)

/-- a function that answers a number. -/
def PlPost (w : World) (d : D) (e : Ending) (w' : World) : Prop := ∃ A n, e = .returned (.agg #[.bool d.neg, .slice A n n, .int .i64 d.e]) ∧ Res w' A n d.x ∧ Below w.heap.size w w'

set_option maxHeartbeats 1000000 in
theorem plain_any {A : Option Addr} {n c x : Nat} {neg : Bool} {e : Int} {w : World} (h : Arg w A n c x) (hs : n ≤ 30000) (hT : Tab w) (he : -1000000 ≤ e) (he2 : e ≤ 1000000) :
    Calls Tryd.prog 51 #[.agg #[.bool neg, .slice A n c, .int .i64 e]] w (PlPost w (D.pl ⟨neg, x, e⟩)) := by
  have HA := Lib.hid (fun o o' => (h.alloc o).alloc o')
  have HT := Lib.hid (fun o o' => (hT.on (below_lit w o)).on (below_lit _ o'))
  by_cases h0 : x = 0
  · subst h0
    go_enter Tryd.func51, Tryd.ntmps51
    go_wp2_with fail
    refine (len_as 0 (HA.out _ _) (by omega) rfl).mono ?_
    rintro e w' ⟨rfl, rfl⟩
    go_wp2_with fail
    refine bodyPost_ret (v := .agg #[.bool false, .slice none 0 0, .int .i64 0]) (by simp [results, Tryd.results51, go_sem]) rfl ?_
    rw [D.pl_zero rfl]
    exact ⟨none, 0, rfl, Res.none_ _, ((Below.refl _ _).alloc (Nat.le_refl _) _).alloc (by simp) _⟩
  · have HB0 := Lib.hid (fun o => (Box.made_d w 25 neg A n c e).alloc o)
    have HB1 := Lib.hid (fun o => Box.made_d2 w o 25 false none 0 0 0)
    have HZ := Lib.hid (tz_ctz x h0)
    have HP := Lib.hid (D.pl_pos (d := ⟨neg, x, e⟩) h0)
    have hbl := h.blen
    have hb1 := (tz_blen h0).1
    have hbz : ((blen x : Int) == 0) = false := by simp; omega
    have HL := Lib.hid (fun o o' => len_any (HA.out o o') (by omega))
    have HD := Lib.hid (HZ.out.mod (tz x))
    generalize blen x = l at *
    obtain ⟨z, ez⟩ : ∃ z, tz x = z := ⟨_, rfl⟩
    rw [ez] at HZ hb1 HD
    have HEZ := Lib.hid ez
    clear ez h hT
    go_enter Tryd.func51, Tryd.ntmps51
    go_wp2_with fail
    refine (HL.out _ _).mono ?_
    rintro e w' ⟨rfl, rfl⟩
    go_wp2_with fail
    refine (zeros_as z (HA.out _ _) (by omega) (HT.out _ _) HZ.out).mono ?_
    rintro e w' ⟨rfl, rfl⟩
    go_wp2_with fail
    refine (right_as z (HA.out _ _) (by omega) (by omega) (HT.out _ _)).mono ?_
    rintro e w1 ⟨A', m, rfl, hr, hm, hb⟩
    have hbx := (HB1.out _).on hb
    obtain ⟨c0, c1, c2, f0, f1, f2, hlt⟩ := ((HB0.out _).on hb).cells
    obtain ⟨d0, d1, d2, g0, g1, g2, hlt2⟩ := hbx.cells
    have HR := Lib.hid (hbx.res hr)
    have HBB := Lib.hid hb
    clear hr hb hbx
    go_wp2_with fail
    refine bodyPost_ret (v := .agg #[.bool neg, .slice A' m m, .int .i64 (e + z)]) (by simp [results, Tryd.results51, go_sem, d0, d1, d2]) rfl ?_
    rw [HP.out, HEZ.out]
    exact ⟨A', m, rfl, HR.out _ _ _, below_put3 ((((Below.refl _ _).alloc (Nat.le_refl _) _).alloc (by simp) _).trans (HBB.out.mono (by simp; omega))) (by omega) _ _ _⟩

/-- -1, 0, 1 of a plain number. -/
def sg (neg : Bool) (x : Nat) : Int := if neg then -1 else if x = 0 then 0 else 1
theorem sign_any {A : Option Addr} {n c x : Nat} {neg : Bool} {e : Int} {w : World} (h : Res w A n x) (hn : n ≤ 1000000) :
    Calls Tryd.prog 45 #[.agg #[.bool neg, .slice A n c, .int .i64 e]] w fun en w' => en = .returned (.int .i64 (sg neg x)) ∧ Below w.heap.size w w' := by
  cases neg
  · by_cases h0 : n = 0
    · subst h0
      have hx := h.zero_len
      subst hx
      go_enter Tryd.func45, Tryd.ntmps45
      go_wp2
      go_ret
      exact ⟨rfl, below_lit _ _⟩
    · have hx := h.pos_len h0
      have e1 : sg false x = 1 := by unfold sg; simp [hx]
      rw [e1]
      clear e1
      have e2 : min (n : Int) 1 = 1 := by omega
      have E2 := Lib.hid e2
      clear e2
      go_enter Tryd.func45, Tryd.ntmps45
      go_wp2
      go_ret
      exact ⟨ret_int E2.out, below_lit _ _⟩
  · go_enter Tryd.func45, Tryd.ntmps45
    go_wp2
    go_ret
    exact ⟨rfl, below_lit _ _⟩

theorem top_any {A : Option Addr} {n c x : Nat} {neg : Bool} {e : Int} {w : World} (h : Arg w A n c x) (hs : n ≤ 30000) (he : -1000000 ≤ e) (he2 : e ≤ 1000000) :
    Calls Tryd.prog 52 #[.agg #[.bool neg, .slice A n c, .int .i64 e]] w fun en w' => en = .returned (.int .i64 ((blen x : Int) - 1 + e)) ∧ Below w.heap.size w w' := by
  have hbl := h.blen
  have HL := Lib.hid (fun o (m : Nat) => len_any (((h.alloc o).on (below_drewN (Below.refl _ _) m))) (by omega))
  generalize blen x = l at *
  have q1 : IntKind.i64.wrap ((l : Int) - 1) = (l : Int) - 1 := IntWalk.i64_in _ (by omega)
  have q2 : IntKind.i64.wrap ((l : Int) - 1 + e) = (l : Int) - 1 + e := IntWalk.i64_in _ (by omega)
  clear h
  go_enter Tryd.func52, Tryd.ntmps52
  go_wp2_with fail
  go_quiet ((go_at_call 70; exact quiet_at (HL.out _ _) ⟨_, rfl⟩))
  go_wp2_with fail
  go_ret
  exact ⟨rfl, below_drewN (below_lit _ _) _⟩
end Go.Proofs.YthaehfdjldjdiaaDoor
