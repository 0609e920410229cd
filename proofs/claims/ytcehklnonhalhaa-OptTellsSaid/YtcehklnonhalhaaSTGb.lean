/-
  What the proofs of OptTells need: Gb.
-/
import Derived.Test.YtcehklnonhalhaaSTMA
import Derived.Test.YtcehklnonhalhaaSTGa
import Derived.Test.YtcehklnonhalhaaChecked
import Derived.Deep.RegionHeld3
import Derived.Lib.SmallJoins
import Derived.Deep.DeepCutAuto
import Derived.LoopN
import Derived.Laws.AppendOwn
import Derived.WalkKit
import Derived.ProofKit
import Derived.Below
import Derived.Lib.Hide
import Derived.Deep.Draws
import Derived.Laws.Rows
set_option linter.unusedVariables false
namespace Go.Proofs.Ytcehklnonhalhaa
open Go.RowKit
set_option maxRecDepth 4000
structure Pt where
  name : ByteArray
  bits : List Int
def ndC (x : Nd) : List Value:=[.int .i64 x.k,.int .i64 x.a,.int .i64 x.b,.int .i64 x.c]
def ndA (x : Nd) : Value:=.agg #[.int .i64 x.k,.int .i64 x.a,.int .i64 x.b,.int .i64 x.c]
def NdAt (w : World) (b o : Nat) (x : Nd) : Prop:=b < w.heap.size ∧ w.cell? ⟨b,o,none⟩ = some (.int .i64 x.k) ∧ w.cell? ⟨b,o + 1,none⟩ = some (.int .i64 x.a) ∧ w.cell? ⟨b,o + 2,none⟩ = some (.int .i64 x.b) ∧ w.cell? ⟨b,o + 3,none⟩ = some (.int .i64 x.c)
def Is (w : World) (A : Option Addr) (n : Nat) (L : List Int) : Prop:=L.length = n ∧ ∀ k x,L[k]? = some x → ∃ b off,A = some ⟨b,off,none⟩ ∧ b < w.heap.size ∧ w.cell? ⟨b,off + k,none⟩ = some (.int .i64 x)
def Ns (w : World) (A : Option Addr) (n : Nat) (L : List Nd) : Prop:=L.length = n ∧ ∀ k x,L[k]? = some x → ∃ b off,A = some ⟨b,off,none⟩ ∧ NdAt w b (off + k * 4) x
def Ps (w : World) (A : Option Addr) (n : Nat) (L : List Pt) : Prop:=L.length = n ∧ ∀ k p,L[k]? = some p → ∃ b off A' m c,A = some ⟨b,off,none⟩ ∧ b < w.heap.size ∧ w.cell? ⟨b,off + k * 2,none⟩ = some (.string p.name) ∧ w.cell? ⟨b,off + k * 2 + 1,none⟩ = some (.slice A' m c) ∧ (m ≤ c ∧ (A' = none → c = 0)) ∧ c ≤ maxLen ∧ Is w A' m p.bits
section
variable {w w' : World} {A : Option Addr} {n : Nat}
theorem NdAt.on {b o : Nat} {x : Nd} (h : NdAt w b o x) (hb : Below w.heap.size w w') : NdAt w' b o x:=
 ⟨Nat.lt_of_lt_of_le h.1 hb.size,(hb.cell (p:=⟨b,o,none⟩) h.1).trans h.2.1,(hb.cell (p:=⟨b,o + 1,none⟩) h.1).trans h.2.2.1,(hb.cell (p:=⟨b,o + 2,none⟩) h.1).trans h.2.2.2.1,(hb.cell (p:=⟨b,o + 3,none⟩) h.1).trans h.2.2.2.2⟩
theorem Is.on {L : List Int} (h : Is w A n L) (hb : Below w.heap.size w w') : Is w' A n L:=
 ⟨h.1,fun k x hx => by
  obtain ⟨b,off,h1,h2,h3⟩:=h.2 k x hx
  exact ⟨b,off,h1,Nat.lt_of_lt_of_le h2 hb.size,(hb.cell (p:=⟨b,off + k,none⟩) h2).trans h3⟩⟩
theorem Ns.on {L : List Nd} (h : Ns w A n L) (hb : Below w.heap.size w w') : Ns w' A n L:=
 ⟨h.1,fun k x hx => by
  obtain ⟨b,off,h1,h2⟩:=h.2 k x hx
  exact ⟨b,off,h1,h2.on hb⟩⟩
theorem Ps.on {L : List Pt} (h : Ps w A n L) (hb : Below w.heap.size w w') : Ps w' A n L:=
 ⟨h.1,fun k x hx => by
  obtain ⟨b,off,A',m,c,h1,h2,h3,h4,h5,h6,h7⟩:=h.2 k x hx
  exact ⟨b,off,A',m,c,h1,Nat.lt_of_lt_of_le h2 hb.size,(hb.cell (p:=⟨b,off + k * 2,none⟩) h2).trans h3,(hb.cell (p:=⟨b,off + k * 2 + 1,none⟩) h2).trans h4,h5,h6,h7.on hb⟩⟩
theorem Is.nil_ : Is w A 0 []:=⟨rfl,fun k x h => by simp at h⟩
theorem Ns.nil_ : Ns w A 0 []:=⟨rfl,fun k x h => by simp at h⟩
theorem Ps.nil_ : Ps w A 0 []:=⟨rfl,fun k x h => by simp at h⟩
end
theorem zat {α : Type} {L : List α} {k n : Nat} (hn : L.length = n) (hk : k < n) : ∃ x,L[k]? = some x:=⟨L[k]'(by omega),List.getElem?_eq_getElem (by omega)⟩
theorem zbl {α : Type} {p : α → Bool} {L : List α} {k : Nat} {x : α} (h : (L.take k).all p = true) (hk : L[k]? = some x) (hx : p x = true) : (L.take (k + 1)).all p = true:=by
 rw [List.take_add_one,hk,List.all_append,h]
 simp [hx]
theorem zbC {α : Type} {p : α → Bool} {L : List α} {k : Nat} {x : α} (hk : L[k]? = some x) (hx : p x = false) : L.all p = false:=by
 rw [List.all_eq_false]
 exact ⟨x,List.mem_of_getElem? hk,by rw [hx]; decide⟩
theorem zav {q k : Int} (h : q = k) : (q == k) = true:=by simp [h]
theorem zae {q k : Int} (h : q ≠ k) : (q == k) = false:=by simp [h]
def zcd (x : Nd) : Nd:=if x.k = 1 then ⟨x.k,0,0,0⟩ else if x.k = 0 ∨ x.k = 2 then ⟨x.k,x.a,0,0⟩ else if x.k = 3 ∨ x.k = 4 ∨ x.k = 5 ∨ x.k = 7 then ⟨x.k,x.a,x.b,0⟩ else x
def za8 (k : Int) : Bool:=decide (0 ≤ k) && decide (k ≤ 7)
def zaj (n p : Int) : Bool:=decide (0 ≤ p) && decide (p < n)
def bitS (v : Int) : Bool:=decide (v = 0) || decide (v = 1)
theorem zex (w : World) (o1 o2 o3 : Obj) : Below w.heap.size w (((w.alloc o1).alloc o2).alloc o3):=((((Below.refl _ _).alloc (by simp <;> omega) _).alloc (by simp <;> omega) _).alloc (by simp <;> omega) _)
theorem zbu (w : World) (o1 o2 : Obj) : Below w.heap.size w ((w.alloc o1).alloc o2):=(((Below.refl _ _).alloc (by simp <;> omega) _).alloc (by simp <;> omega) _)
theorem below1 (w : World) (o1 : Obj) : Below w.heap.size w (w.alloc o1):=((Below.refl _ _).alloc (by simp <;> omega) _)
theorem used_2 (k a b c : Int) (w : World) (e2 : (k == 2) = true) :
  Calls Try.prog 109 #[.agg #[.int .i64 k,.int .i64 a,.int .i64 b,.int .i64 c]] w fun e w' => e = .returned (.tuple #[.agg #[.int .i64 a,.int .i64 b,.int .i64 c],.int .i64 1]) ∧ Below w.heap.size w w':=by
 go_enter Try.func109,Try.ntmps109
 go_wp2_with fail
 refine bodyPost_ret (v:=.tuple #[.agg #[.int .i64 a,.int .i64 b,.int .i64 c],.int .i64 1]) (by simp [results,Try.results109,go_sem]) rfl ⟨rfl,zex _ _ _ _⟩
theorem used_7 (k a b c : Int) (w : World) (e2 : (k == 2) = false) (e7 : (k == 7) = true) :
  Calls Try.prog 109 #[.agg #[.int .i64 k,.int .i64 a,.int .i64 b,.int .i64 c]] w fun e w' => e = .returned (.tuple #[.agg #[.int .i64 a,.int .i64 b,.int .i64 c],.int .i64 1]) ∧ Below w.heap.size w w':=by
 go_enter Try.func109,Try.ntmps109
 go_wp2_with fail
 refine bodyPost_ret (v:=.tuple #[.agg #[.int .i64 a,.int .i64 b,.int .i64 c],.int .i64 1]) (by simp [results,Try.results109,go_sem]) rfl ⟨rfl,zex _ _ _ _⟩
theorem used_3 (k a b c : Int) (w : World) (e2 : (k == 2) = false) (e7 : (k == 7) = false) (e3 : (k == 3) = true) :
  Calls Try.prog 109 #[.agg #[.int .i64 k,.int .i64 a,.int .i64 b,.int .i64 c]] w fun e w' => e = .returned (.tuple #[.agg #[.int .i64 a,.int .i64 b,.int .i64 c],.int .i64 2]) ∧ Below w.heap.size w w':=by
 go_enter Try.func109,Try.ntmps109
 go_wp2_with fail
 refine bodyPost_ret (v:=.tuple #[.agg #[.int .i64 a,.int .i64 b,.int .i64 c],.int .i64 2]) (by simp [results,Try.results109,go_sem]) rfl ⟨rfl,zex _ _ _ _⟩
theorem used_4 (k a b c : Int) (w : World) (e2 : (k == 2) = false) (e7 : (k == 7) = false) (e3 : (k == 3) = false) (e4 : (k == 4) = true) :
  Calls Try.prog 109 #[.agg #[.int .i64 k,.int .i64 a,.int .i64 b,.int .i64 c]] w fun e w' => e = .returned (.tuple #[.agg #[.int .i64 a,.int .i64 b,.int .i64 c],.int .i64 2]) ∧ Below w.heap.size w w':=by
 go_enter Try.func109,Try.ntmps109
 go_wp2_with fail
 refine bodyPost_ret (v:=.tuple #[.agg #[.int .i64 a,.int .i64 b,.int .i64 c],.int .i64 2]) (by simp [results,Try.results109,go_sem]) rfl ⟨rfl,zex _ _ _ _⟩
theorem used_5 (k a b c : Int) (w : World) (e2 : (k == 2) = false) (e7 : (k == 7) = false) (e3 : (k == 3) = false) (e4 : (k == 4) = false) (e5 : (k == 5) = true) :
  Calls Try.prog 109 #[.agg #[.int .i64 k,.int .i64 a,.int .i64 b,.int .i64 c]] w fun e w' => e = .returned (.tuple #[.agg #[.int .i64 a,.int .i64 b,.int .i64 c],.int .i64 2]) ∧ Below w.heap.size w w':=by
 go_enter Try.func109,Try.ntmps109
 go_wp2_with fail
 refine bodyPost_ret (v:=.tuple #[.agg #[.int .i64 a,.int .i64 b,.int .i64 c],.int .i64 2]) (by simp [results,Try.results109,go_sem]) rfl ⟨rfl,zex _ _ _ _⟩
theorem used_6 (k a b c : Int) (w : World) (e2 : (k == 2) = false) (e7 : (k == 7) = false) (e3 : (k == 3) = false) (e4 : (k == 4) = false) (e5 : (k == 5) = false) (e6 : (k == 6) = true) :
  Calls Try.prog 109 #[.agg #[.int .i64 k,.int .i64 a,.int .i64 b,.int .i64 c]] w fun e w' => e = .returned (.tuple #[.agg #[.int .i64 a,.int .i64 b,.int .i64 c],.int .i64 3]) ∧ Below w.heap.size w w':=by
 go_enter Try.func109,Try.ntmps109
 go_wp2_with fail
 refine bodyPost_ret (v:=.tuple #[.agg #[.int .i64 a,.int .i64 b,.int .i64 c],.int .i64 3]) (by simp [results,Try.results109,go_sem]) rfl ⟨rfl,zex _ _ _ _⟩
theorem used_n (k a b c : Int) (w : World) (e2 : (k == 2) = false) (e7 : (k == 7) = false) (e3 : (k == 3) = false) (e4 : (k == 4) = false) (e5 : (k == 5) = false) (e6 : (k == 6) = false) :
  Calls Try.prog 109 #[.agg #[.int .i64 k,.int .i64 a,.int .i64 b,.int .i64 c]] w fun e w' => e = .returned (.tuple #[.agg #[.int .i64 a,.int .i64 b,.int .i64 c],.int .i64 0]) ∧ Below w.heap.size w w':=by
 go_enter Try.func109,Try.ntmps109
 go_wp2_with fail
 refine bodyPost_ret (v:=.tuple #[.agg #[.int .i64 a,.int .i64 b,.int .i64 c],.int .i64 0]) (by simp [results,Try.results109,go_sem]) rfl ⟨rfl,zex _ _ _ _⟩
theorem zeX (k a b c : Int) (m : Nat) (hm : zau k = m) (w : World) :
  Calls Try.prog 109 #[.agg #[.int .i64 k,.int .i64 a,.int .i64 b,.int .i64 c]] w fun e w' => e = .returned (.tuple #[.agg #[.int .i64 a,.int .i64 b,.int .i64 c],.int .i64 (m : Int)]) ∧ Below w.heap.size w w':=by
 unfold zau at hm
 by_cases h2 : k = 2
 ·rw [if_pos (by omega)] at hm
  subst hm
  exact used_2 k a b c w (zav h2)
 by_cases h7 : k = 7
 ·rw [if_pos (by omega)] at hm
  subst hm
  exact used_7 k a b c w (zae h2) (zav h7)
 by_cases h3 : k = 3
 ·rw [if_neg (by omega),if_pos (by omega)] at hm
  subst hm
  exact used_3 k a b c w (zae h2) (zae h7) (zav h3)
 by_cases h4 : k = 4
 ·rw [if_neg (by omega),if_pos (by omega)] at hm
  subst hm
  exact used_4 k a b c w (zae h2) (zae h7) (zae h3) (zav h4)
 by_cases h5 : k = 5
 ·rw [if_neg (by omega),if_pos (by omega)] at hm
  subst hm
  exact used_5 k a b c w (zae h2) (zae h7) (zae h3) (zae h4) (zav h5)
 by_cases h6 : k = 6
 ·rw [if_neg (by omega),if_neg (by omega),if_pos (by omega)] at hm
  subst hm
  exact used_6 k a b c w (zae h2) (zae h7) (zae h3) (zae h4) (zae h5) (zav h6)
 rw [if_neg (by omega),if_neg (by omega),if_neg (by omega)] at hm
 subst hm
 exact used_n k a b c w (zae h2) (zae h7) (zae h3) (zae h4) (zae h5) (zae h6)
theorem isKind_f (k : Int) (e : decide (0 ≤ k) = false) (w : World) :
  Calls Try.prog 129 #[.int .i64 k] w fun e w' => e = .returned (.bool false) ∧ Below w.heap.size w w':=by
 go_enter Try.func129,Try.ntmps129
 go_wp2_with fail
 go_ret
 exact ⟨rfl,Below.refl _ _⟩
theorem isKind_t (k : Int) (v : Bool) (e : decide (0 ≤ k) = true) (e2 : decide (k ≤ 7) = v) (w : World) :
  Calls Try.prog 129 #[.int .i64 k] w fun e w' => e = .returned (.bool v) ∧ Below w.heap.size w w':=by
 go_enter Try.func129,Try.ntmps129
 go_wp2_with fail
 go_ret
 exact ⟨rfl,Below.refl _ _⟩
theorem zcC (k : Int) (v : Bool) (hv : za8 k = v) (w : World) : Calls Try.prog 129 #[.int .i64 k] w fun e w' => e = .returned (.bool v) ∧ Below w.heap.size w w':=by
 unfold za8 at hv
 by_cases h : 0 ≤ k
 ·rw [decide_eq_true h,Bool.true_and] at hv
  exact isKind_t k v (decide_eq_true h) hv w
 rw [decide_eq_false h,Bool.false_and] at hv
 subst hv
 exact isKind_f k (decide_eq_false h) w
theorem isPlace_f (p n : Int) (e : decide (0 ≤ p) = false) (w : World) :
  Calls Try.prog 119 #[.int .i64 p,.int .i64 n] w fun e w' => e = .returned (.bool false) ∧ Below w.heap.size w w':=by
 go_enter Try.func119,Try.ntmps119
 go_wp2_with fail
 go_ret
 exact ⟨rfl,Below.refl _ _⟩
theorem isPlace_t (p n : Int) (v : Bool) (e : decide (0 ≤ p) = true) (e2 : decide (p < n) = v) (w : World) :
  Calls Try.prog 119 #[.int .i64 p,.int .i64 n] w fun e w' => e = .returned (.bool v) ∧ Below w.heap.size w w':=by
 go_enter Try.func119,Try.ntmps119
 go_wp2_with fail
 go_ret
 exact ⟨rfl,Below.refl _ _⟩
theorem zcM (p n : Int) (v : Bool) (hv : zaj n p = v) (w : World) : Calls Try.prog 119 #[.int .i64 p,.int .i64 n] w fun e w' => e = .returned (.bool v) ∧ Below w.heap.size w w':=by
 unfold zaj at hv
 by_cases h : 0 ≤ p
 ·rw [decide_eq_true h,Bool.true_and] at hv
  exact isPlace_t p n v (decide_eq_true h) hv w
 rw [decide_eq_false h,Bool.false_and] at hv
 subst hv
 exact isPlace_f p n (decide_eq_false h) w
theorem isBit_t (k : Int) (e : (k == 0) = true) (w : World) :
  Calls Try.prog 131 #[.int .i64 k] w fun e w' => e = .returned (.bool true) ∧ Below w.heap.size w w':=by
 go_enter Try.func131,Try.ntmps131
 go_wp2_with fail
 go_ret
 exact ⟨rfl,Below.refl _ _⟩
theorem isBit_f (k : Int) (v : Bool) (e : (k == 0) = false) (e2 : (k == 1) = v) (w : World) :
  Calls Try.prog 131 #[.int .i64 k] w fun e w' => e = .returned (.bool v) ∧ Below w.heap.size w w':=by
 go_enter Try.func131,Try.ntmps131
 go_wp2_with fail
 go_ret
 exact ⟨rfl,Below.refl _ _⟩
theorem isBit_as (k : Int) (v : Bool) (hv : bitS k = v) (w : World) : Calls Try.prog 131 #[.int .i64 k] w fun e w' => e = .returned (.bool v) ∧ Below w.heap.size w w':=by
 unfold bitS at hv
 by_cases h : k = 0
 ·rw [decide_eq_true h,Bool.true_or] at hv
  subst hv
  exact isBit_t k (zav h) w
 rw [decide_eq_false h,Bool.false_or] at hv
 exact isBit_f k v (zae h) (by rw [← hv,Bool.eq_iff_iff]; simp) w
theorem bare_1 (k a b c : Int) (w : World) (e1 : (k == 1) = true) :
  Calls Try.prog 130 #[.agg #[.int .i64 k,.int .i64 a,.int .i64 b,.int .i64 c]] w fun e w' => e = .returned (.agg #[.int .i64 k,.int .i64 0,.int .i64 0,.int .i64 0]) ∧ Below w.heap.size w w':=by
 go_enter Try.func130,Try.ntmps130
 go_wp2_with fail
 refine bodyPost_ret (v:=.agg #[.int .i64 k,.int .i64 0,.int .i64 0,.int .i64 0]) (by simp [results,Try.results130,go_sem]) rfl ⟨rfl,zbu _ _ _⟩
theorem bare_0 (k a b c : Int) (w : World) (e1 : (k == 1) = false) (e0 : (k == 0) = true) :
  Calls Try.prog 130 #[.agg #[.int .i64 k,.int .i64 a,.int .i64 b,.int .i64 c]] w fun e w' => e = .returned (.agg #[.int .i64 k,.int .i64 a,.int .i64 0,.int .i64 0]) ∧ Below w.heap.size w w':=by
 go_enter Try.func130,Try.ntmps130
 go_wp2_with fail
 refine bodyPost_ret (v:=.agg #[.int .i64 k,.int .i64 a,.int .i64 0,.int .i64 0]) (by simp [results,Try.results130,go_sem]) rfl ⟨rfl,zbu _ _ _⟩
theorem bare_2 (k a b c : Int) (w : World) (e1 : (k == 1) = false) (e0 : (k == 0) = false) (e2 : (k == 2) = true) :
  Calls Try.prog 130 #[.agg #[.int .i64 k,.int .i64 a,.int .i64 b,.int .i64 c]] w fun e w' => e = .returned (.agg #[.int .i64 k,.int .i64 a,.int .i64 0,.int .i64 0]) ∧ Below w.heap.size w w':=by
 go_enter Try.func130,Try.ntmps130
 go_wp2_with fail
 refine bodyPost_ret (v:=.agg #[.int .i64 k,.int .i64 a,.int .i64 0,.int .i64 0]) (by simp [results,Try.results130,go_sem]) rfl ⟨rfl,zbu _ _ _⟩
theorem bare_3 (k a b c : Int) (w : World) (e1 : (k == 1) = false) (e0 : (k == 0) = false) (e2 : (k == 2) = false) (e3 : (k == 3) = true) :
  Calls Try.prog 130 #[.agg #[.int .i64 k,.int .i64 a,.int .i64 b,.int .i64 c]] w fun e w' => e = .returned (.agg #[.int .i64 k,.int .i64 a,.int .i64 b,.int .i64 0]) ∧ Below w.heap.size w w':=by
 go_enter Try.func130,Try.ntmps130
 go_wp2_with fail
 refine bodyPost_ret (v:=.agg #[.int .i64 k,.int .i64 a,.int .i64 b,.int .i64 0]) (by simp [results,Try.results130,go_sem]) rfl ⟨rfl,zbu _ _ _⟩
theorem bare_4 (k a b c : Int) (w : World) (e1 : (k == 1) = false) (e0 : (k == 0) = false) (e2 : (k == 2) = false) (e3 : (k == 3) = false) (e4 : (k == 4) = true) :
  Calls Try.prog 130 #[.agg #[.int .i64 k,.int .i64 a,.int .i64 b,.int .i64 c]] w fun e w' => e = .returned (.agg #[.int .i64 k,.int .i64 a,.int .i64 b,.int .i64 0]) ∧ Below w.heap.size w w':=by
 go_enter Try.func130,Try.ntmps130
 go_wp2_with fail
 refine bodyPost_ret (v:=.agg #[.int .i64 k,.int .i64 a,.int .i64 b,.int .i64 0]) (by simp [results,Try.results130,go_sem]) rfl ⟨rfl,zbu _ _ _⟩
theorem bare_5 (k a b c : Int) (w : World) (e1 : (k == 1) = false) (e0 : (k == 0) = false) (e2 : (k == 2) = false) (e3 : (k == 3) = false) (e4 : (k == 4) = false) (e5 : (k == 5) = true) :
  Calls Try.prog 130 #[.agg #[.int .i64 k,.int .i64 a,.int .i64 b,.int .i64 c]] w fun e w' => e = .returned (.agg #[.int .i64 k,.int .i64 a,.int .i64 b,.int .i64 0]) ∧ Below w.heap.size w w':=by
 go_enter Try.func130,Try.ntmps130
 go_wp2_with fail
 refine bodyPost_ret (v:=.agg #[.int .i64 k,.int .i64 a,.int .i64 b,.int .i64 0]) (by simp [results,Try.results130,go_sem]) rfl ⟨rfl,zbu _ _ _⟩
theorem bare_7 (k a b c : Int) (w : World) (e1 : (k == 1) = false) (e0 : (k == 0) = false) (e2 : (k == 2) = false) (e3 : (k == 3) = false) (e4 : (k == 4) = false) (e5 : (k == 5) = false) (e7 : (k == 7) = true) :
  Calls Try.prog 130 #[.agg #[.int .i64 k,.int .i64 a,.int .i64 b,.int .i64 c]] w fun e w' => e = .returned (.agg #[.int .i64 k,.int .i64 a,.int .i64 b,.int .i64 0]) ∧ Below w.heap.size w w':=by
 go_enter Try.func130,Try.ntmps130
 go_wp2_with fail
 refine bodyPost_ret (v:=.agg #[.int .i64 k,.int .i64 a,.int .i64 b,.int .i64 0]) (by simp [results,Try.results130,go_sem]) rfl ⟨rfl,zbu _ _ _⟩
theorem bare_n (k a b c : Int) (w : World) (e1 : (k == 1) = false) (e0 : (k == 0) = false) (e2 : (k == 2) = false) (e3 : (k == 3) = false) (e4 : (k == 4) = false) (e5 : (k == 5) = false) (e7 : (k == 7) = false) :
  Calls Try.prog 130 #[.agg #[.int .i64 k,.int .i64 a,.int .i64 b,.int .i64 c]] w fun e w' => e = .returned (.agg #[.int .i64 k,.int .i64 a,.int .i64 b,.int .i64 c]) ∧ Below w.heap.size w w':=by
 go_enter Try.func130,Try.ntmps130
 go_wp2_with fail
 refine bodyPost_ret (v:=.agg #[.int .i64 k,.int .i64 a,.int .i64 b,.int .i64 c]) (by simp [results,Try.results130,go_sem]) rfl ⟨rfl,zbu _ _ _⟩
theorem zfj (k a b c k' a' b' c' : Int) (h : zcd ⟨k,a,b,c⟩ = ⟨k',a',b',c'⟩) (w : World) :
  Calls Try.prog 130 #[.agg #[.int .i64 k,.int .i64 a,.int .i64 b,.int .i64 c]] w fun e w' => e = .returned (.agg #[.int .i64 k',.int .i64 a',.int .i64 b',.int .i64 c']) ∧ Below w.heap.size w w':=by
 unfold zcd at h
 simp only at h
 by_cases h1 : k = 1
 ·rw [if_pos h1] at h
  simp only [Nd.mk.injEq] at h
  obtain ⟨rfl,rfl,rfl,rfl⟩:=h
  exact bare_1 k a b c w (zav h1)
 by_cases h0 : k = 0
 ·rw [if_neg h1,if_pos (by omega)] at h
  simp only [Nd.mk.injEq] at h
  obtain ⟨rfl,rfl,rfl,rfl⟩:=h
  exact bare_0 k a b c w (zae h1) (zav h0)
 by_cases h2 : k = 2
 ·rw [if_neg h1,if_pos (by omega)] at h
  simp only [Nd.mk.injEq] at h
  obtain ⟨rfl,rfl,rfl,rfl⟩:=h
  exact bare_2 k a b c w (zae h1) (zae h0) (zav h2)
 by_cases h3 : k = 3
 ·rw [if_neg h1,if_neg (by omega),if_pos (by omega)] at h
  simp only [Nd.mk.injEq] at h
  obtain ⟨rfl,rfl,rfl,rfl⟩:=h
  exact bare_3 k a b c w (zae h1) (zae h0) (zae h2) (zav h3)
 by_cases h4 : k = 4
 ·rw [if_neg h1,if_neg (by omega),if_pos (by omega)] at h
  simp only [Nd.mk.injEq] at h
  obtain ⟨rfl,rfl,rfl,rfl⟩:=h
  exact bare_4 k a b c w (zae h1) (zae h0) (zae h2) (zae h3) (zav h4)
 by_cases h5 : k = 5
 ·rw [if_neg h1,if_neg (by omega),if_pos (by omega)] at h
  simp only [Nd.mk.injEq] at h
  obtain ⟨rfl,rfl,rfl,rfl⟩:=h
  exact bare_5 k a b c w (zae h1) (zae h0) (zae h2) (zae h3) (zae h4) (zav h5)
 by_cases h7 : k = 7
 ·rw [if_neg h1,if_neg (by omega),if_pos (by omega)] at h
  simp only [Nd.mk.injEq] at h
  obtain ⟨rfl,rfl,rfl,rfl⟩:=h
  exact bare_7 k a b c w (zae h1) (zae h0) (zae h2) (zae h3) (zae h4) (zae h5) (zav h7)
 rw [if_neg h1,if_neg (by omega),if_neg (by omega)] at h
 simp only [Nd.mk.injEq] at h
 obtain ⟨rfl,rfl,rfl,rfl⟩:=h
 exact bare_n k a b c w (zae h1) (zae h0) (zae h2) (zae h3) (zae h4) (zae h5) (zae h7)
end Go.Proofs.Ytcehklnonhalhaa
