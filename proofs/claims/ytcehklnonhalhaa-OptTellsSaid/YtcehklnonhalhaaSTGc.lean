/-
  What the proofs of OptTells need: Gc Gd Ge.
-/
import Derived.Test.YtcehklnonhalhaaSTGb
import Derived.Test.YtcehklnonhalhaaSTLex
import Derived.Laws.StructEq
set_option linter.unusedVariables false
namespace Go.Proofs.Ytcehklnonhalhaa
open Go.RowKit
set_option maxRecDepth 4000
def Bx (w : World) (s : Nat) (vs : List Value) : Prop:=s < w.heap.size ∧ ∀ i u,vs[i]? = some u → w.cell? ⟨s,i,none⟩ = some u
theorem Bx.on {w w' : World} {s : Nat} {vs : List Value} (h : Bx w s vs) (hb : Below w.heap.size w w') : Bx w' s vs:=
 ⟨Nat.lt_of_lt_of_le h.1 hb.size,fun i u hu => (hb.cell (p:=⟨s,i,none⟩) h.1).trans (h.2 i u hu)⟩
theorem Bx.made_k (w : World) {s : Nat} (hs : w.heap.size = s) (vs : Array Value) (t : TypeId) : Bx (w.alloc (.cells vs t)) s vs.toList:=by
 subst hs
 refine ⟨by simp,fun i u hu => ?_⟩
 rw [cell_of_row _ w.heap.size i vs t (0,0) (heap_alloc_new w _)]
 simpa using hu
theorem zaa (w : World) (o : Obj) : Below w.heap.size w (w.alloc o):=(Below.refl _ _).alloc (Nat.le_refl _) o
theorem zal (w : World) (o : Obj) {s : Nat} (h : w.heap.size = s) : (w.alloc o).heap.size = s + 1:=by subst h; simp
theorem zmB (w : World) (L : List Value) (T : TypeId) : ∃ w1,w.alloc (.cells L.toArray T) = w1 ∧ Bx w1 w.heap.size L ∧ Below w.heap.size w w1:=⟨_,rfl,Bx.made_k w rfl L.toArray T,zaa _ _⟩
theorem zmS (w : World) : ∃ s1,w.heap.size + 1 = s1 ∧ w.heap.size ≤ s1 ∧ w.heap.size ≠ s1:=⟨_,rfl,by omega,by omega⟩
theorem zmD (w : World) (L : List Value) (T : TypeId) : ∃ w1,w.alloc (.cells L.toArray T) = w1 ∧ Below w.heap.size w w1 ∧ w1.heap.size = w.heap.size + 1 ∧ Bx w1 w.heap.size L:=⟨_,rfl,zaa _ _,zal w _ rfl,Bx.made_k w rfl L.toArray T⟩
theorem Bx.zb4 {w : World} {s : Nat} {a b c d : Value} {l : List Value} (h : Bx w s (a :: b :: c :: d :: l)) : w.cell? ⟨s,0,none⟩ = some a ∧ w.cell? ⟨s,1,none⟩ = some b ∧ w.cell? ⟨s,2,none⟩ = some c ∧ w.cell? ⟨s,3,none⟩ = some d:=⟨h.2 0 _ rfl,h.2 1 _ rfl,h.2 2 _ rfl,h.2 3 _ rfl⟩
theorem Bx.zb3 {w : World} {s : Nat} {a b c : Value} {l : List Value} (h : Bx w s (a :: b :: c :: l)) : w.cell? ⟨s,0,none⟩ = some a ∧ w.cell? ⟨s,1,none⟩ = some b ∧ w.cell? ⟨s,2,none⟩ = some c:=⟨h.2 0 _ rfl,h.2 1 _ rfl,h.2 2 _ rfl⟩
theorem Bx.zbc1c2c3 {w : World} {s : Nat} {a b c d : Value} {l : List Value} (h : Bx w s (a :: b :: c :: d :: l)) : w.cell? ⟨s,1,none⟩ = some b ∧ w.cell? ⟨s,2,none⟩ = some c ∧ w.cell? ⟨s,3,none⟩ = some d:=⟨h.2 1 _ rfl,h.2 2 _ rfl,h.2 3 _ rfl⟩
theorem zmA (w : World) (L : List Value) (T : TypeId) (M : List Value) (U : TypeId) : ∃ w1,(w.alloc (.cells L.toArray T)).alloc (.cells M.toArray U) = w1 ∧ Bx w1 w.heap.size L ∧ Own w1 (w.heap.size + 1) U M ∧ Below w.heap.size w w1:=⟨_,rfl,(Bx.made_k w rfl L.toArray T).on (zaa _ _),by
  rw [← zal w (.cells L.toArray T) rfl]
  exact Own.made _ U M,zbu _ _ _⟩
theorem zmC (w : World) (L : List Value) (T : TypeId) : ∃ w1,(w.alloc (.cells L.toArray T)).alloc (.cells #[.int .i64 0,.int .i64 0,.int .i64 0,.int .i64 0] T) = w1 ∧ Bx w1 w.heap.size L ∧ Own w1 (w.heap.size + 1) T [.int .i64 0,.int .i64 0,.int .i64 0,.int .i64 0] ∧ Below w.heap.size w w1:=zmA w L T [.int .i64 0,.int .i64 0,.int .i64 0,.int .i64 0] T
theorem Own.zo3 {w : World} {s : Nat} {T : TypeId} {a b c : Value} {l : List Value} (h : Own w s T (a :: b :: c :: l)) : w.cell? ⟨s,0,none⟩ = some a ∧ w.cell? ⟨s,1,none⟩ = some b ∧ w.cell? ⟨s,2,none⟩ = some c:=⟨h.cell 0,h.cell 1,h.cell 2⟩
theorem Own.zoc0f0c1f1c2f2c3f3 {w : World} {s : Nat} {T : TypeId} {a b c d : Value} {l : List Value} (h : Own w s T (a :: b :: c :: d :: l)) : w.cell? ⟨s,0,none⟩ = some a ∧ w.frozen? ⟨s,0,none⟩ = false ∧ w.cell? ⟨s,1,none⟩ = some b ∧ w.frozen? ⟨s,1,none⟩ = false ∧ w.cell? ⟨s,2,none⟩ = some c ∧ w.frozen? ⟨s,2,none⟩ = false ∧ w.cell? ⟨s,3,none⟩ = some d ∧ w.frozen? ⟨s,3,none⟩ = false:=⟨h.cell 0,h.free 0,h.cell 1,h.free 1,h.cell 2,h.free 2,h.cell 3,h.free 3⟩
theorem Own.zo4 {w : World} {s : Nat} {T : TypeId} {a b c d : Value} {l : List Value} (h : Own w s T (a :: b :: c :: d :: l)) : w.cell? ⟨s,0,none⟩ = some a ∧ w.cell? ⟨s,1,none⟩ = some b ∧ w.cell? ⟨s,2,none⟩ = some c ∧ w.cell? ⟨s,3,none⟩ = some d:=⟨h.cell 0,h.cell 1,h.cell 2,h.cell 3⟩
theorem Own.zoc1c2c3 {w : World} {s : Nat} {T : TypeId} {a b c d : Value} {l : List Value} (h : Own w s T (a :: b :: c :: d :: l)) : w.cell? ⟨s,1,none⟩ = some b ∧ w.cell? ⟨s,2,none⟩ = some c ∧ w.cell? ⟨s,3,none⟩ = some d:=⟨h.cell 1,h.cell 2,h.cell 3⟩
theorem Own.zof0f1f2f3 {w : World} {s : Nat} {T : TypeId} {a b c d : Value} {l : List Value} (h : Own w s T (a :: b :: c :: d :: l)) : w.frozen? ⟨s,0,none⟩ = false ∧ w.frozen? ⟨s,1,none⟩ = false ∧ w.frozen? ⟨s,2,none⟩ = false ∧ w.frozen? ⟨s,3,none⟩ = false:=⟨h.free 0,h.free 1,h.free 2,h.free 3⟩
theorem Own.zof0f1f2 {w : World} {s : Nat} {T : TypeId} {a b c : Value} {l : List Value} (h : Own w s T (a :: b :: c :: l)) : w.frozen? ⟨s,0,none⟩ = false ∧ w.frozen? ⟨s,1,none⟩ = false ∧ w.frozen? ⟨s,2,none⟩ = false:=⟨h.free 0,h.free 1,h.free 2⟩
theorem Own.zoc4c5c6 {w : World} {s : Nat} {T : TypeId} {a b c d e f g : Value} {l : List Value} (h : Own w s T (a :: b :: c :: d :: e :: f :: g :: l)) : w.cell? ⟨s,4,none⟩ = some e ∧ w.cell? ⟨s,5,none⟩ = some f ∧ w.cell? ⟨s,6,none⟩ = some g:=⟨h.cell 4,h.cell 5,h.cell 6⟩
theorem Own.zof4f5f6 {w : World} {s : Nat} {T : TypeId} {a b c d e f g : Value} {l : List Value} (h : Own w s T (a :: b :: c :: d :: e :: f :: g :: l)) : w.frozen? ⟨s,4,none⟩ = false ∧ w.frozen? ⟨s,5,none⟩ = false ∧ w.frozen? ⟨s,6,none⟩ = false:=⟨h.free 4,h.free 5,h.free 6⟩
theorem Own.zoc4c5c6c1c2c3 {w : World} {s : Nat} {T : TypeId} {a b c d e f g : Value} {l : List Value} (h : Own w s T (a :: b :: c :: d :: e :: f :: g :: l)) : w.cell? ⟨s,4,none⟩ = some e ∧ w.cell? ⟨s,5,none⟩ = some f ∧ w.cell? ⟨s,6,none⟩ = some g ∧ w.cell? ⟨s,1,none⟩ = some b ∧ w.cell? ⟨s,2,none⟩ = some c ∧ w.cell? ⟨s,3,none⟩ = some d:=⟨h.cell 4,h.cell 5,h.cell 6,h.cell 1,h.cell 2,h.cell 3⟩
theorem zmE (w : World) (L : List Value) (T : TypeId) (M : List Value) (U : TypeId) : ∃ w1,(w.alloc (.cells L.toArray T)).alloc (.cells M.toArray U) = w1 ∧ Own w1 w.heap.size T L ∧ Own w1 (w.heap.size + 1) U M ∧ Below w.heap.size w w1:=⟨_,rfl,(Own.made w T L).below (zaa _ _) (by simp),by
  rw [← zal w (.cells L.toArray T) rfl]
  exact Own.made _ U M,zbu _ _ _⟩
theorem _root_.Go.RowKit.Below.s3' {B : Nat} {w0 w : World} {s : Nat} {a b c : Value} (h : Below B w0 w) (hs : B ≤ s) : Below B w0 (((w.setCell ⟨s,0,none⟩ a).setCell ⟨s,1,none⟩ b).setCell ⟨s,2,none⟩ c):=((h.setCell (p:=⟨s,0,none⟩) hs a).setCell (p:=⟨s,1,none⟩) hs b).setCell (p:=⟨s,2,none⟩) hs c
theorem _root_.Go.RowKit.Below.s4' {B : Nat} {w0 w : World} {s : Nat} {a b c d : Value} (h : Below B w0 w) (hs : B ≤ s) : Below B w0 ((((w.setCell ⟨s,0,none⟩ a).setCell ⟨s,1,none⟩ b).setCell ⟨s,2,none⟩ c).setCell ⟨s,3,none⟩ d):=(h.s3' hs).setCell (p:=⟨s,3,none⟩) hs d
theorem _root_.Go.RowKit.Below.e3' {B : Nat} {w0 w : World} {s : Nat} (h : Below B w0 w) (hs : B ≤ s) (a b c : Value) : Below B w0 (((w.setCell ⟨s,0,none⟩ a).setCell ⟨s,1,none⟩ b).setCell ⟨s,2,none⟩ c):=h.s3' hs
theorem _root_.Go.RowKit.Below.e4' {B : Nat} {w0 w : World} {s : Nat} (h : Below B w0 w) (hs : B ≤ s) (a b c d : Value) : Below B w0 ((((w.setCell ⟨s,0,none⟩ a).setCell ⟨s,1,none⟩ b).setCell ⟨s,2,none⟩ c).setCell ⟨s,3,none⟩ d):=h.s4' hs
theorem Own.p3' {w : World} {g : Nat} {t : TypeId} {cs : List Value} (h : Own w g t cs) (a b c : Value) : Own (((w.setCell ⟨g,0,none⟩ a).setCell ⟨g,1,none⟩ b).setCell ⟨g,2,none⟩ c) g t (((cs.set 0 a).set 1 b).set 2 c):=((h.put 0 a).put 1 b).put 2 c
theorem Own.p4' {w : World} {g : Nat} {t : TypeId} {cs : List Value} (h : Own w g t cs) (a b c d : Value) : Own ((((w.setCell ⟨g,0,none⟩ a).setCell ⟨g,1,none⟩ b).setCell ⟨g,2,none⟩ c).setCell ⟨g,3,none⟩ d) g t ((((cs.set 0 a).set 1 b).set 2 c).set 3 d):=(h.p3' a b c).put 3 d
theorem below_k {a w : World} (h : Below a.heap.size a w) (o : Obj) : Below a.heap.size a (w.alloc o):=h.alloc h.size o
def zcS (x : Nd) : Bool:=if x.k = 0 then bitS x.a else if x.k = 7 then bitS x.b else true
def za6 (x y : Nd) : Bool:=(x.k == y.k && (x.a == y.a && (x.b == y.b && x.c == y.c)))
def zaf (n : Int) (x : Nd) : Bool:=za8 x.k && (za6 x (zcd x) && ((zag x).all (zaj n) && zcS x))
theorem zbt (k a b c : Int) : (zag ⟨k,a,b,c⟩) = [a,b,c].take (zau k):=rfl
theorem zad {a b : Bool} (h : a = b) : Ending.returned (.bool a) = Ending.returned (.bool b):=by rw [h]
theorem zbM (k : Int) : zau k ≤ 3 := by unfold zau; repeat' split
                                        all_goals omega
theorem isFormed_k (k p q r n : Int) (w : World) (hk : za8 k = false) :
  Calls Try.prog 118 #[.agg #[.int .i64 k,.int .i64 p,.int .i64 q,.int .i64 r],.int .i64 n] w fun e w' => e = .returned (.bool false) ∧ Below w.heap.size w w':=by
 have HK:=Lib.hid hk
 clear hk
 go_enter Try.func118,Try.ntmps118
 go_wp2_with fail
 obtain ⟨w1,e_w1,b,hs_w1,z0⟩:=zmD w [.int .i64 k,.int .i64 p,.int .i64 q,.int .i64 r] 43
 rw [e_w1]
 clear e_w1
 have BW:=b
 clear b
 clear hs_w1
 try dsimp only [List.append]
 refine region_plan [0,1,2,3,4,5,6,7,8,9] (by kernel_rfl) (by kernel_rfl) (by kernel_rfl) (by kernel_rfl) (by kernel_rfl) ?_
 dsimp only [pick,nth]
 replace z0:=z0.on ((Below.refl _ _).drew : Below w1.heap.size w1 w1.drew)
 replace BW:=Below.step BW ((Below.refl _ _).drew : Below w1.heap.size w1 w1.drew)
 obtain ⟨w2,e_w2⟩ : ∃ w',w1.drew = w':=⟨_,rfl⟩
 rw [e_w2] at z0 BW ⊢
 clear e_w2
 have H3:=fun s : Wd w2 => (z0.on s.below).2 0 _ rfl
 have H2:=fun s : Wd w2 => (z0.on s.below).2 1 _ rfl
 have H1:=fun s : Wd w2 => (z0.on s.below).2 2 _ rfl
 have H0:=fun s : Wd w2 => (z0.on s.below).2 3 _ rfl
 refine lex_plain 2 (by kernel_rfl) ?_
 dsimp only [List.take,List.drop]
 repeat go_big_quiet_step (fail)
 refine wpQuiet_nil ?_
 clear H3 H2 H1 H0
 refine lex_call (by kernel_rfl) (by kernel_rfl) (fun w3 b K hK => ?_)
 replace z0:=z0.on b
 replace BW:=Below.step BW b
 clear b
 go_simp
 refine (zcC k false HK.out _).mono ?_
 rintro en w4 ⟨rfl,b⟩
 dsimp only
 refine hK _ _ b ?_
 clear hK K
 replace z0:=z0.on b
 replace BW:=Below.step BW b
 clear b
 have H3:=fun s : Wd w4 => (z0.on s.below).2 0 _ rfl
 have H2:=fun s : Wd w4 => (z0.on s.below).2 1 _ rfl
 have H1:=fun s : Wd w4 => (z0.on s.below).2 2 _ rfl
 have H0:=fun s : Wd w4 => (z0.on s.below).2 3 _ rfl
 refine lex_plain 4 (by kernel_rfl) ?_
 dsimp only [List.take,List.drop]
 repeat go_big_quiet_step (fail)
 refine wpQuiet_nil ?_
 clear H3 H2 H1 H0
 refine lex_skip (by kernel_rfl) (by kernel_rfl) (fun w5 b => ?_)
 replace z0:=z0.on b
 replace BW:=Below.step BW b
 clear b
 go_simp
 have H3:=fun s : Wd w5 => (z0.on s.below).2 0 _ rfl
 have H2:=fun s : Wd w5 => (z0.on s.below).2 1 _ rfl
 have H1:=fun s : Wd w5 => (z0.on s.below).2 2 _ rfl
 have H0:=fun s : Wd w5 => (z0.on s.below).2 3 _ rfl
 refine lex_plain 2 (by kernel_rfl) ?_
 dsimp only [List.take,List.drop]
 repeat go_big_quiet_step (fail)
 refine wpQuiet_nil ?_
 clear H3 H2 H1 H0
 refine lex_nil (fun w6 b => ?_)
 replace z0:=z0.on b
 replace BW:=Below.step BW b
 clear b
 dsimp only [NoPanic]
 go_wp2_with fail
 go_ret
 exact ⟨rfl,BW⟩
theorem isFormed_p (k p q r n : Int) (w : World) (hk : za8 k = true) {p' q' r' : Int} (hp : ¬ p = p') (hb : zcd ⟨k,p,q,r⟩ = ⟨k,p',q',r'⟩) :
  Calls Try.prog 118 #[.agg #[.int .i64 k,.int .i64 p,.int .i64 q,.int .i64 r],.int .i64 n] w fun e w' => e = .returned (.bool false) ∧ Below w.heap.size w w':=by
 have HK:=Lib.hid hk
 have HB:=Lib.hid hb
 clear hk hb
 go_enter Try.func118,Try.ntmps118
 go_wp2_with fail
 obtain ⟨w1,e_w1,b,hs_w1,z0⟩:=zmD w [.int .i64 k,.int .i64 p,.int .i64 q,.int .i64 r] 43
 rw [e_w1]
 clear e_w1
 have BW:=b
 clear b
 clear hs_w1
 try dsimp only [List.append]
 refine region_plan [0,1,2,3,4,5,6,7,8,9] (by kernel_rfl) (by kernel_rfl) (by kernel_rfl) (by kernel_rfl) (by kernel_rfl) ?_
 dsimp only [pick,nth]
 replace z0:=z0.on ((Below.refl _ _).drew : Below w1.heap.size w1 w1.drew)
 replace BW:=Below.step BW ((Below.refl _ _).drew : Below w1.heap.size w1 w1.drew)
 obtain ⟨w2,e_w2⟩ : ∃ w',w1.drew = w':=⟨_,rfl⟩
 rw [e_w2] at z0 BW ⊢
 clear e_w2
 have H3:=fun s : Wd w2 => (z0.on s.below).2 0 _ rfl
 have H2:=fun s : Wd w2 => (z0.on s.below).2 1 _ rfl
 have H1:=fun s : Wd w2 => (z0.on s.below).2 2 _ rfl
 have H0:=fun s : Wd w2 => (z0.on s.below).2 3 _ rfl
 refine lex_plain 2 (by kernel_rfl) ?_
 dsimp only [List.take,List.drop]
 repeat go_big_quiet_step (fail)
 refine wpQuiet_nil ?_
 clear H3 H2 H1 H0
 refine lex_call (by kernel_rfl) (by kernel_rfl) (fun w3 b K hK => ?_)
 replace z0:=z0.on b
 replace BW:=Below.step BW b
 clear b
 go_simp
 refine (zcC k true HK.out _).mono ?_
 rintro en w4 ⟨rfl,b⟩
 dsimp only
 refine hK _ _ b ?_
 clear hK K
 replace z0:=z0.on b
 replace BW:=Below.step BW b
 clear b
 have H3:=fun s : Wd w4 => (z0.on s.below).2 0 _ rfl
 have H2:=fun s : Wd w4 => (z0.on s.below).2 1 _ rfl
 have H1:=fun s : Wd w4 => (z0.on s.below).2 2 _ rfl
 have H0:=fun s : Wd w4 => (z0.on s.below).2 3 _ rfl
 refine lex_plain 4 (by kernel_rfl) ?_
 dsimp only [List.take,List.drop]
 repeat go_big_quiet_step (fail)
 refine wpQuiet_nil ?_
 clear H3 H2 H1 H0
 refine lex_call (by kernel_rfl) (by kernel_rfl) (fun w5 b K hK => ?_)
 replace z0:=z0.on b
 replace BW:=Below.step BW b
 clear b
 go_simp
 refine (zfj k p q r k p' q' r' HB.out _).mono ?_
 rintro en w6 ⟨rfl,b⟩
 dsimp only
 refine hK _ _ b ?_
 clear hK K
 replace z0:=z0.on b
 replace BW:=Below.step BW b
 clear b
 have H3:=fun s : Wd w6 => (z0.on s.below).2 0 _ rfl
 have H2:=fun s : Wd w6 => (z0.on s.below).2 1 _ rfl
 have H1:=fun s : Wd w6 => (z0.on s.below).2 2 _ rfl
 have H0:=fun s : Wd w6 => (z0.on s.below).2 3 _ rfl
 refine lex_plain 2 (by kernel_rfl) ?_
 dsimp only [List.take,List.drop]
 repeat go_big_quiet_step (fail)
 refine wpQuiet_nil ?_
 clear H3 H2 H1 H0
 refine lex_nil (fun w7 b => ?_)
 replace z0:=z0.on b
 replace BW:=Below.step BW b
 clear b
 dsimp only [NoPanic]
 go_wp2_with fail
 go_ret
 exact ⟨rfl,BW⟩
theorem isFormed_q (k p q r n : Int) (w : World) (hk : za8 k = true) {q' r' : Int} (hq : ¬ q = q') (hb : zcd ⟨k,p,q,r⟩ = ⟨k,p,q',r'⟩) :
  Calls Try.prog 118 #[.agg #[.int .i64 k,.int .i64 p,.int .i64 q,.int .i64 r],.int .i64 n] w fun e w' => e = .returned (.bool false) ∧ Below w.heap.size w w':=by
 have HK:=Lib.hid hk
 have HB:=Lib.hid hb
 clear hk hb
 go_enter Try.func118,Try.ntmps118
 go_wp2_with fail
 obtain ⟨w1,e_w1,b,hs_w1,z0⟩:=zmD w [.int .i64 k,.int .i64 p,.int .i64 q,.int .i64 r] 43
 rw [e_w1]
 clear e_w1
 have BW:=b
 clear b
 clear hs_w1
 try dsimp only [List.append]
 refine region_plan [0,1,2,3,4,5,6,7,8,9] (by kernel_rfl) (by kernel_rfl) (by kernel_rfl) (by kernel_rfl) (by kernel_rfl) ?_
 dsimp only [pick,nth]
 replace z0:=z0.on ((Below.refl _ _).drew : Below w1.heap.size w1 w1.drew)
 replace BW:=Below.step BW ((Below.refl _ _).drew : Below w1.heap.size w1 w1.drew)
 obtain ⟨w2,e_w2⟩ : ∃ w',w1.drew = w':=⟨_,rfl⟩
 rw [e_w2] at z0 BW ⊢
 clear e_w2
 have H3:=fun s : Wd w2 => (z0.on s.below).2 0 _ rfl
 have H2:=fun s : Wd w2 => (z0.on s.below).2 1 _ rfl
 have H1:=fun s : Wd w2 => (z0.on s.below).2 2 _ rfl
 have H0:=fun s : Wd w2 => (z0.on s.below).2 3 _ rfl
 refine lex_plain 2 (by kernel_rfl) ?_
 dsimp only [List.take,List.drop]
 repeat go_big_quiet_step (fail)
 refine wpQuiet_nil ?_
 clear H3 H2 H1 H0
 refine lex_call (by kernel_rfl) (by kernel_rfl) (fun w3 b K hK => ?_)
 replace z0:=z0.on b
 replace BW:=Below.step BW b
 clear b
 go_simp
 refine (zcC k true HK.out _).mono ?_
 rintro en w4 ⟨rfl,b⟩
 dsimp only
 refine hK _ _ b ?_
 clear hK K
 replace z0:=z0.on b
 replace BW:=Below.step BW b
 clear b
 have H3:=fun s : Wd w4 => (z0.on s.below).2 0 _ rfl
 have H2:=fun s : Wd w4 => (z0.on s.below).2 1 _ rfl
 have H1:=fun s : Wd w4 => (z0.on s.below).2 2 _ rfl
 have H0:=fun s : Wd w4 => (z0.on s.below).2 3 _ rfl
 refine lex_plain 4 (by kernel_rfl) ?_
 dsimp only [List.take,List.drop]
 repeat go_big_quiet_step (fail)
 refine wpQuiet_nil ?_
 clear H3 H2 H1 H0
 refine lex_call (by kernel_rfl) (by kernel_rfl) (fun w5 b K hK => ?_)
 replace z0:=z0.on b
 replace BW:=Below.step BW b
 clear b
 go_simp
 refine (zfj k p q r k p q' r' HB.out _).mono ?_
 rintro en w6 ⟨rfl,b⟩
 dsimp only
 refine hK _ _ b ?_
 clear hK K
 replace z0:=z0.on b
 replace BW:=Below.step BW b
 clear b
 have H3:=fun s : Wd w6 => (z0.on s.below).2 0 _ rfl
 have H2:=fun s : Wd w6 => (z0.on s.below).2 1 _ rfl
 have H1:=fun s : Wd w6 => (z0.on s.below).2 2 _ rfl
 have H0:=fun s : Wd w6 => (z0.on s.below).2 3 _ rfl
 refine lex_plain 2 (by kernel_rfl) ?_
 dsimp only [List.take,List.drop]
 repeat go_big_quiet_step (fail)
 refine wpQuiet_nil ?_
 clear H3 H2 H1 H0
 refine lex_nil (fun w7 b => ?_)
 replace z0:=z0.on b
 replace BW:=Below.step BW b
 clear b
 dsimp only [NoPanic]
 go_wp2_with fail
 go_ret
 exact ⟨rfl,BW⟩
theorem isFormed_r (k p q r n : Int) (w : World) (hk : za8 k = true) {r' : Int} (hr : ¬ r = r') (hb : zcd ⟨k,p,q,r⟩ = ⟨k,p,q,r'⟩) :
  Calls Try.prog 118 #[.agg #[.int .i64 k,.int .i64 p,.int .i64 q,.int .i64 r],.int .i64 n] w fun e w' => e = .returned (.bool false) ∧ Below w.heap.size w w':=by
 have HK:=Lib.hid hk
 have HB:=Lib.hid hb
 clear hk hb
 go_enter Try.func118,Try.ntmps118
 go_wp2_with fail
 obtain ⟨w1,e_w1,b,hs_w1,z0⟩:=zmD w [.int .i64 k,.int .i64 p,.int .i64 q,.int .i64 r] 43
 rw [e_w1]
 clear e_w1
 have BW:=b
 clear b
 clear hs_w1
 try dsimp only [List.append]
 refine region_plan [0,1,2,3,4,5,6,7,8,9] (by kernel_rfl) (by kernel_rfl) (by kernel_rfl) (by kernel_rfl) (by kernel_rfl) ?_
 dsimp only [pick,nth]
 replace z0:=z0.on ((Below.refl _ _).drew : Below w1.heap.size w1 w1.drew)
 replace BW:=Below.step BW ((Below.refl _ _).drew : Below w1.heap.size w1 w1.drew)
 obtain ⟨w2,e_w2⟩ : ∃ w',w1.drew = w':=⟨_,rfl⟩
 rw [e_w2] at z0 BW ⊢
 clear e_w2
 have H3:=fun s : Wd w2 => (z0.on s.below).2 0 _ rfl
 have H2:=fun s : Wd w2 => (z0.on s.below).2 1 _ rfl
 have H1:=fun s : Wd w2 => (z0.on s.below).2 2 _ rfl
 have H0:=fun s : Wd w2 => (z0.on s.below).2 3 _ rfl
 refine lex_plain 2 (by kernel_rfl) ?_
 dsimp only [List.take,List.drop]
 repeat go_big_quiet_step (fail)
 refine wpQuiet_nil ?_
 clear H3 H2 H1 H0
 refine lex_call (by kernel_rfl) (by kernel_rfl) (fun w3 b K hK => ?_)
 replace z0:=z0.on b
 replace BW:=Below.step BW b
 clear b
 go_simp
 refine (zcC k true HK.out _).mono ?_
 rintro en w4 ⟨rfl,b⟩
 dsimp only
 refine hK _ _ b ?_
 clear hK K
 replace z0:=z0.on b
 replace BW:=Below.step BW b
 clear b
 have H3:=fun s : Wd w4 => (z0.on s.below).2 0 _ rfl
 have H2:=fun s : Wd w4 => (z0.on s.below).2 1 _ rfl
 have H1:=fun s : Wd w4 => (z0.on s.below).2 2 _ rfl
 have H0:=fun s : Wd w4 => (z0.on s.below).2 3 _ rfl
 refine lex_plain 4 (by kernel_rfl) ?_
 dsimp only [List.take,List.drop]
 repeat go_big_quiet_step (fail)
 refine wpQuiet_nil ?_
 clear H3 H2 H1 H0
 refine lex_call (by kernel_rfl) (by kernel_rfl) (fun w5 b K hK => ?_)
 replace z0:=z0.on b
 replace BW:=Below.step BW b
 clear b
 go_simp
 refine (zfj k p q r k p q r' HB.out _).mono ?_
 rintro en w6 ⟨rfl,b⟩
 dsimp only
 refine hK _ _ b ?_
 clear hK K
 replace z0:=z0.on b
 replace BW:=Below.step BW b
 clear b
 have H3:=fun s : Wd w6 => (z0.on s.below).2 0 _ rfl
 have H2:=fun s : Wd w6 => (z0.on s.below).2 1 _ rfl
 have H1:=fun s : Wd w6 => (z0.on s.below).2 2 _ rfl
 have H0:=fun s : Wd w6 => (z0.on s.below).2 3 _ rfl
 refine lex_plain 2 (by kernel_rfl) ?_
 dsimp only [List.take,List.drop]
 repeat go_big_quiet_step (fail)
 refine wpQuiet_nil ?_
 clear H3 H2 H1 H0
 refine lex_nil (fun w7 b => ?_)
 replace z0:=z0.on b
 replace BW:=Below.step BW b
 clear b
 dsimp only [NoPanic]
 go_wp2_with fail
 go_ret
 exact ⟨rfl,BW⟩
theorem zd1 {k : Int} {p q r : Int} (j : Nat) (x : Int) (hlt : j < zau k) (hx : (zag ⟨k,p,q,r⟩)[j]? = some x) : [Value.int .i64 p,.int .i64 q,.int .i64 r][j]? = some (.int .i64 x):=by
 unfold zag at hx
 rw [List.getElem?_take,if_pos hlt] at hx
 rcases j with _ | _ | _ | j
 ·simp at hx; simp [hx]
 ·simp at hx; simp [hx]
 ·simp at hx; simp [hx]
 simp at hx
theorem zbo (x : Nd) : (zag x).length = zau x.k:=by
 have:=zbM x.k
 unfold zag
 rw [List.length_take]
 simp only [List.length_cons,List.length_nil]
 omega
theorem zdv (x : Nd) : za6 x x = true:=by unfold za6; simp
set_option maxHeartbeats 1000000 in
theorem isFormed_s (k p q r n : Int) (w : World) (hk : za8 k = true) (hb : zcd ⟨k,p,q,r⟩ = ⟨k,p,q,r⟩) (m : Nat) (hm : zau k = m) (v : Bool) (hv : zaf n ⟨k,p,q,r⟩ = v) :
  Calls Try.prog 118 #[.agg #[.int .i64 k,.int .i64 p,.int .i64 q,.int .i64 r],.int .i64 n] w fun e w' => e = .returned (.bool v) ∧ Below w.heap.size w w':=by
 have hm3 : m ≤ 3:=hm ▸ zbM k
 have hal : (m : Int) ≤ ((Try.prog.arrayLen 137 : Nat) : Int):=by
  have : Try.prog.arrayLen 137 = 3:=by kernel_rfl
  rw [this]; omega
 have hal3 : (m : Int) ≤ 3:=by omega
 have HK:=Lib.hid hk
 have HB:=Lib.hid hb
 have HM:=Lib.hid hm
 have HF:=Lib.hid hv
 have HLN : Hid ((zag ⟨k,p,q,r⟩).length = m):=Lib.hid (by rw [zbo]; exact hm)
 have HX3 : ∀ (j : Nat) (x : Int),j < m → (zag ⟨k,p,q,r⟩)[j]? = some x → [Value.int .i64 p,.int .i64 q,.int .i64 r][j]? = some (.int .i64 x):=fun j x h1 h2 => zd1 j x (by rw [hm]; exact h1) h2
 have H6 : Hid (za6 ⟨k,p,q,r⟩ (zcd ⟨k,p,q,r⟩) = true):=Lib.hid (by rw [hb]; exact zdv _)
 clear hk hb hm hv
 go_enter Try.func118,Try.ntmps118
 go_wp2_with fail
 obtain ⟨w1,e_w1,b,hs_w1,z0⟩:=zmD w [.int .i64 k,.int .i64 p,.int .i64 q,.int .i64 r] 43
 rw [e_w1]
 clear e_w1
 have BW:=b
 clear b
 clear hs_w1
 try dsimp only [List.append]
 refine region_plan [0,1,2,3,4,5,6,7,8,9] (by kernel_rfl) (by kernel_rfl) (by kernel_rfl) (by kernel_rfl) (by kernel_rfl) ?_
 dsimp only [pick,nth]
 replace z0:=z0.on ((Below.refl _ _).drew : Below w1.heap.size w1 w1.drew)
 replace BW:=Below.step BW ((Below.refl _ _).drew : Below w1.heap.size w1 w1.drew)
 obtain ⟨w2,e_w2⟩ : ∃ w',w1.drew = w':=⟨_,rfl⟩
 rw [e_w2] at z0 BW ⊢
 clear e_w2
 have H3:=fun s : Wd w2 => (z0.on s.below).2 0 _ rfl
 have H2:=fun s : Wd w2 => (z0.on s.below).2 1 _ rfl
 have H1:=fun s : Wd w2 => (z0.on s.below).2 2 _ rfl
 have H0:=fun s : Wd w2 => (z0.on s.below).2 3 _ rfl
 refine lex_plain 2 (by kernel_rfl) ?_
 dsimp only [List.take,List.drop]
 repeat go_big_quiet_step (fail)
 refine wpQuiet_nil ?_
 clear H3 H2 H1 H0
 refine lex_call (by kernel_rfl) (by kernel_rfl) (fun w3 b K hK => ?_)
 replace z0:=z0.on b
 replace BW:=Below.step BW b
 clear b
 go_simp
 refine (zcC k true HK.out _).mono ?_
 rintro en w4 ⟨rfl,b⟩
 dsimp only
 refine hK _ _ b ?_
 clear hK K
 replace z0:=z0.on b
 replace BW:=Below.step BW b
 clear b
 have H3:=fun s : Wd w4 => (z0.on s.below).2 0 _ rfl
 have H2:=fun s : Wd w4 => (z0.on s.below).2 1 _ rfl
 have H1:=fun s : Wd w4 => (z0.on s.below).2 2 _ rfl
 have H0:=fun s : Wd w4 => (z0.on s.below).2 3 _ rfl
 refine lex_plain 4 (by kernel_rfl) ?_
 dsimp only [List.take,List.drop]
 repeat go_big_quiet_step (fail)
 refine wpQuiet_nil ?_
 clear H3 H2 H1 H0
 refine lex_call (by kernel_rfl) (by kernel_rfl) (fun w5 b K hK => ?_)
 replace z0:=z0.on b
 replace BW:=Below.step BW b
 clear b
 go_simp
 refine (zfj k p q r k p q r HB.out _).mono ?_
 rintro en w6 ⟨rfl,b⟩
 dsimp only
 refine hK _ _ b ?_
 clear hK K
 replace z0:=z0.on b
 replace BW:=Below.step BW b
 clear b
 have H3:=fun s : Wd w6 => (z0.on s.below).2 0 _ rfl
 have H2:=fun s : Wd w6 => (z0.on s.below).2 1 _ rfl
 have H1:=fun s : Wd w6 => (z0.on s.below).2 2 _ rfl
 have H0:=fun s : Wd w6 => (z0.on s.below).2 3 _ rfl
 refine lex_plain 2 (by kernel_rfl) ?_
 dsimp only [List.take,List.drop]
 repeat go_big_quiet_step (fail)
 refine wpQuiet_nil ?_
 clear H3 H2 H1 H0
 refine lex_nil (fun w7 b => ?_)
 replace z0:=z0.on b
 replace BW:=Below.step BW b
 clear b
 dsimp only [NoPanic]
 obtain ⟨z0c0,z0c1,z0c2,z0c3⟩:=z0.zb4
 go_wp2_with fail
 refine (zeX k p q r m HM.out _).mono ?_
 rintro en w8 ⟨rfl,b⟩
 clear z0c0 z0c1 z0c2 z0c3
 replace z0:=z0.on b
 replace BW:=Below.step BW b
 clear b
 go_upto_region 4 with fail
 obtain ⟨w9,e_w9,b,hs_w9,z5⟩:=zmD w8 [.int .i64 p,.int .i64 q,.int .i64 r] 137
 rw [e_w9]
 clear e_w9
 replace z0:=z0.on b
 replace BW:=Below.step BW b
 clear b
 clear hs_w9
 go_wp2_with fail
 have H5:=BW
 clear BW
 go_loopw [27] (fun i wr => ∃ j : Nat,j ≤ m ∧ i = .int .i64 j ∧ ((zag ⟨k,p,q,r⟩).take j).all (zaj n) = true ∧ Below w9.heap.size w9 wr) (fun i _ => m - (intOf i).toNat)
 case atStart => exact ⟨0,Nat.zero_le _,rfl,rfl,Below.refl _ _⟩
 obtain ⟨j,hj,rfl,ha,BW⟩:=hrel
 have HA:=Lib.hid ha
 clear ha
 replace z0:=z0.on BW
 replace z5:=z5.on BW
 by_cases hlt : j < m
 ·obtain ⟨x,hx⟩:=zat HLN.out hlt
  have HX:=Lib.hid hx
  have lc:=z5.2 j (.int .i64 x) (HX3 j x hlt hx)
  clear hx
  obtain ⟨v,hv⟩ : ∃ v,zaj n x = v:=⟨_,rfl⟩
  have HV:=Lib.hid hv
  cases v
  ·have HR:=Lib.hid (zbC (p:=zaj n) HX.out hv)
   clear hv
   go_wp2_with fail
   refine (zcM x n false HV.out _).mono ?_
   rintro en w9 ⟨rfl,b⟩
   replace BW:=Below.step BW b
   go_wp2_with fail
   go_ret
   exact ⟨zad (by rw [← HF.out]; unfold zaf zcS; rw [HR.out]; simp),Below.step H5 BW⟩
  have HT:=Lib.hid (zbl (p:=zaj n) HA.out HX.out hv)
  clear hv
  go_wp2_with fail
  refine (zcM x n true HV.out _).mono ?_
  rintro en w9 ⟨rfl,b⟩
  replace BW:=Below.step BW b
  go_wp2_with fail
  go_roundw
  case rel => exact ⟨j + 1,by omega,by go_num,HT.out,BW⟩
  case measure => simp [intOf]; omega
 have HT : Hid ((zag ⟨k,p,q,r⟩).all (zaj n) = true):=by
  have:=HA.out
  rw [List.take_of_length_le (by rw [HLN.out]; omega)] at this
  exact Lib.hid this
 obtain ⟨z0c0,z0c1,z0c2,z0c3⟩:=z0.zb4
 by_cases h0 : k = 0
 ·have e0:=zav h0
  have H4 : Hid (bitS p = v):=Lib.hid (by rw [← HF.out]; unfold zaf zcS; rw [HK.out,H6.out,HT.out,if_pos h0]; rfl)
  clear h0
  go_wp2_with fail
  refine (isBit_as p v H4.out _).mono ?_
  rintro en w9 ⟨rfl,b⟩
  replace BW:=Below.step BW b
  go_wp2_with fail
  go_ret
  exact ⟨rfl,Below.step H5 BW⟩
 have e0:=zae h0
 by_cases h7 : k = 7
 ·have e7:=zav h7
  have H4 : Hid (bitS q = v):=Lib.hid (by rw [← HF.out]; unfold zaf zcS; rw [HK.out,H6.out,HT.out,if_neg h0,if_pos h7]; rfl)
  clear h0 h7
  go_wp2_with fail
  refine (isBit_as q v H4.out _).mono ?_
  rintro en w9 ⟨rfl,b⟩
  replace BW:=Below.step BW b
  go_wp2_with fail
  go_ret
  exact ⟨rfl,Below.step H5 BW⟩
 have e7:=zae h7
 have H4 : Hid (true = v):=Lib.hid (by rw [← HF.out]; unfold zaf zcS; rw [HK.out,H6.out,HT.out,if_neg h0,if_neg h7]; rfl)
 clear h0 h7
 go_wp2_with fail
 go_ret
 exact ⟨zad H4.out,Below.step H5 BW⟩
theorem bareS_k (k p q r : Int) : ∃ p' q' r',zcd ⟨k,p,q,r⟩ = ⟨k,p',q',r'⟩:=by
 unfold zcd
 simp only
 repeat' split
 all_goals exact ⟨_,_,_,rfl⟩
theorem zem (k p q r n : Int) (w : World) (v : Bool) (hv : zaf n ⟨k,p,q,r⟩ = v) :
  Calls Try.prog 118 #[.agg #[.int .i64 k,.int .i64 p,.int .i64 q,.int .i64 r],.int .i64 n] w fun e w' => e = .returned (.bool v) ∧ Below w.heap.size w w':=by
 by_cases hk : za8 k = true
 ·obtain ⟨p',q',r',hb⟩:=bareS_k k p q r
  by_cases h1 : p = p'
  ·subst h1
   by_cases h2 : q = q'
   ·subst h2
    by_cases h3 : r = r'
    ·subst h3
     exact isFormed_s k p q r n w hk hb _ rfl v hv
    obtain rfl : false = v:=by rw [← hv]; unfold zaf za6; rw [hb]; simp [h3]
    exact isFormed_r k p q r n w hk h3 hb
   obtain rfl : false = v:=by rw [← hv]; unfold zaf za6; rw [hb]; simp [h2]
   exact isFormed_q k p q r n w hk h2 hb
  obtain rfl : false = v:=by rw [← hv]; unfold zaf za6; rw [hb]; simp [h1]
  exact isFormed_p k p q r n w hk h1 hb
 have hk' : za8 k = false:=by simpa using hk
 obtain rfl : false = v:=by rw [← hv]; unfold zaf; rw [hk']; rfl
 exact isFormed_k k p q r n w hk'
theorem Ns.at {w : World} {A : Option Addr} {n : Nat} {L : List Nd} (h : Ns w A n L) {k : Nat} (hk : k < n) : ∃ b off x1 x2 x3 x4,A = some ⟨b,off,none⟩ ∧ Hid (L[k]? = some ⟨x1,x2,x3,x4⟩) ∧ w.cell? ⟨b,off + k * 4,none⟩ = some (.int .i64 x1) ∧ w.cell? ⟨b,off + k * 4 + 1,none⟩ = some (.int .i64 x2) ∧ w.cell? ⟨b,off + k * 4 + 2,none⟩ = some (.int .i64 x3) ∧ w.cell? ⟨b,off + k * 4 + 3,none⟩ = some (.int .i64 x4):=by
 obtain ⟨⟨x1,x2,x3,x4⟩,hx⟩:=zat h.1 hk
 obtain ⟨b,off,h1,h2,h3,h4,h5,h6⟩:=h.2 k _ hx
 exact ⟨b,off,x1,x2,x3,x4,h1,Lib.hid hx,h3,h4,h5,h6⟩
set_option maxHeartbeats 1000000 in
theorem zbr {A : Option Addr} {n c : Nat} {L : List Nd} {w : World} (h : Ns w A n L) (hn : n ≤ 1000000) (v : Bool) (hv : L.all (zaf n) = v) :
  Calls Try.prog 97 #[.slice A n c] w fun e w' => e = .returned (.bool v) ∧ Below w.heap.size w w':=by
 have HV:=Lib.hid hv
 clear hv
 go_enter Try.func97,Try.ntmps97
 go_wp2_with fail
 go_loopw [7] (fun i wr => ∃ j : Nat,j ≤ n ∧ i = .int .i64 j ∧ (L.take j).all (zaf n) = true ∧ Below w.heap.size w wr) (fun i _ => n - (intOf i).toNat)
 case atStart => exact ⟨0,Nat.zero_le _,rfl,rfl,Below.refl _ _⟩
 obtain ⟨j,hj,rfl,ha,BW⟩:=hrel
 have HA:=Lib.hid ha
 clear ha
 have h1:=h.on BW
 by_cases hlt : j < n
 ·obtain ⟨b0,off,x1,x2,x3,x4,rfl,HX,c1,c2,c3,c4⟩:=h1.at hlt
  go_upto_region 4 with fail
  clear c1 c2 c3 c4
  obtain ⟨w1,e_w1⟩ : ∃ w',wr.alloc (.cells #[.int .i64 x1,.int .i64 x2,.int .i64 x3,.int .i64 x4] 43) = w':=⟨_,rfl⟩
  have z0 : Bx w1 wr.heap.size [.int .i64 x1,.int .i64 x2,.int .i64 x3,.int .i64 x4]:=e_w1 ▸ Bx.made_k wr rfl #[.int .i64 x1,.int .i64 x2,.int .i64 x3,.int .i64 x4] 43
  replace BW : Below w.heap.size w w1:=e_w1 ▸ below_k BW _
  rw [e_w1]
  clear e_w1
  obtain ⟨z0c0,z0c1,z0c2,z0c3⟩:=z0.zb4
  obtain ⟨u,hu⟩ : ∃ u,zaf n ⟨x1,x2,x3,x4⟩ = u:=⟨_,rfl⟩
  have HU:=Lib.hid hu
  cases u
  ·have HR:=Lib.hid (zbC (p:=zaf n) HX.out hu)
   clear hu
   go_wp2_with fail
   refine (zem x1 x2 x3 x4 n _ false HU.out).mono ?_
   rintro en w9 ⟨rfl,b⟩
   replace BW:=Below.step BW b
   go_wp2_with fail
   go_ret
   exact ⟨zad (by rw [← HV.out,HR.out]),BW⟩
  have HT:=Lib.hid (zbl (p:=zaf n) HA.out HX.out hu)
  clear hu
  go_wp2_with fail
  refine (zem x1 x2 x3 x4 n _ true HU.out).mono ?_
  rintro en w9 ⟨rfl,b⟩
  replace BW:=Below.step BW b
  go_wp2_with fail
  go_roundw
  case rel => exact ⟨j + 1,by omega,by go_num,HT.out,BW⟩
  case measure => simp [intOf]; omega
 have HR : Hid (L.all (zaf n) = true):=by
  have:=HA.out
  rw [List.take_of_length_le (by rw [h.1]; omega)] at this
  exact Lib.hid this
 go_wp2_with fail
 go_ret
 exact ⟨zad (by rw [← HV.out,HR.out]),BW⟩
set_option maxRecDepth 4000
def zaO (c : Int) : Bool:=decide (97 ≤ c) && decide (c ≤ 122)
def zcD (c : Int) : Bool:=decide (48 ≤ c) && decide (c ≤ 57)
theorem isLetter_f (k : Int) (e : decide (97 ≤ k) = false) (w : World) :
  Calls Try.prog 132 #[.int .u8 k] w fun e w' => e = .returned (.bool false) ∧ Below w.heap.size w w':=by
 go_enter Try.func132,Try.ntmps132
 go_wp2_with fail
 go_ret
 exact ⟨rfl,Below.refl _ _⟩
theorem isLetter_t (k : Int) (v : Bool) (e : decide (97 ≤ k) = true) (e2 : decide (k ≤ 122) = v) (w : World) :
  Calls Try.prog 132 #[.int .u8 k] w fun e w' => e = .returned (.bool v) ∧ Below w.heap.size w w':=by
 go_enter Try.func132,Try.ntmps132
 go_wp2_with fail
 go_ret
 exact ⟨rfl,Below.refl _ _⟩
theorem zbx (k : Int) (v : Bool) (hv : zaO k = v) (w : World) : Calls Try.prog 132 #[.int .u8 k] w fun e w' => e = .returned (.bool v) ∧ Below w.heap.size w w':=by
 unfold zaO at hv
 by_cases h : 97 ≤ k
 ·rw [decide_eq_true h,Bool.true_and] at hv
  exact isLetter_t k v (decide_eq_true h) hv w
 rw [decide_eq_false h,Bool.false_and] at hv
 subst hv
 exact isLetter_f k (decide_eq_false h) w
theorem isDigit_f (k : Int) (e : decide (48 ≤ k) = false) (w : World) :
  Calls Try.prog 133 #[.int .u8 k] w fun e w' => e = .returned (.bool false) ∧ Below w.heap.size w w':=by
 go_enter Try.func133,Try.ntmps133
 go_wp2_with fail
 go_ret
 exact ⟨rfl,Below.refl _ _⟩
theorem isDigit_t (k : Int) (v : Bool) (e : decide (48 ≤ k) = true) (e2 : decide (k ≤ 57) = v) (w : World) :
  Calls Try.prog 133 #[.int .u8 k] w fun e w' => e = .returned (.bool v) ∧ Below w.heap.size w w':=by
 go_enter Try.func133,Try.ntmps133
 go_wp2_with fail
 go_ret
 exact ⟨rfl,Below.refl _ _⟩
theorem zdD (k : Int) (v : Bool) (hv : zcD k = v) (w : World) : Calls Try.prog 133 #[.int .u8 k] w fun e w' => e = .returned (.bool v) ∧ Below w.heap.size w w':=by
 unfold zcD at hv
 by_cases h : 48 ≤ k
 ·rw [decide_eq_true h,Bool.true_and] at hv
  exact isDigit_t k v (decide_eq_true h) hv w
 rw [decide_eq_false h,Bool.false_and] at hv
 subst hv
 exact isDigit_f k (decide_eq_false h) w
def byS (s : ByteArray) (j : Nat) : Int:=if h : j < s.size then (s[j].toNat : Int) else 0
theorem byS_at {s : ByteArray} {j : Nat} (h : j < s.size) : byS s j = (s[j].toNat : Int):=dif_pos h
def zbB (c : Int) : Bool:=zcD c || c == 95
def okS (s : ByteArray) (j : Nat) : Bool:=zaO (byS s j) || zbB (byS s j)
def resS (s : ByteArray) : Bool:=s.toList == [109,111,100,117,108,101] || s.toList == [101,110,100,109,111,100,117,108,101] || s.toList == [105,110,112,117,116] || s.toList == [111,117,116,112,117,116] || s.toList == [119,105,114,101] || s.toList == [97,115,115,105,103,110] || s.toList == [99,108,107] || s.toList == [114,115,116]
def zbm (s : ByteArray) : Bool:=(decide (0 < s.size) && decide (s.size ≤ 20)) && (zaO (byS s 0) && ((List.range s.size).all (okS s) && !resS s))
theorem zbq {p : Nat → Bool} {j : Nat} (h : (List.range j).all p = true) (hx : p j = true) : (List.range (j + 1)).all p = true:=by
 rw [List.range_succ,List.all_append,h]
 simp [hx]
theorem za7 {p : Nat → Bool} {j n : Nat} (hj : j < n) (hx : p j = false) : (List.range n).all p = false:=by
 rw [List.all_eq_false]
 exact ⟨j,List.mem_range.2 hj,by rw [hx]; decide⟩
theorem name_empty (s : ByteArray) (w : World) (h0 : ((s.size : Int) == 0) = true) : Calls Try.prog 120 #[.string s] w fun e w' => e = .returned (.bool false) ∧ Below w.heap.size w w':=by
 go_enter Try.func120,Try.ntmps120
 go_wp2_with fail
 go_ret
 exact ⟨rfl,Below.refl _ _⟩
theorem name_long (s : ByteArray) (w : World) (h0 : ((s.size : Int) == 0) = false) (h20 : decide (20 < (s.size : Int)) = true) : Calls Try.prog 120 #[.string s] w fun e w' => e = .returned (.bool false) ∧ Below w.heap.size w w':=by
 go_enter Try.func120,Try.ntmps120
 go_wp2_with fail
 go_ret
 exact ⟨rfl,Below.refl _ _⟩
theorem name_first (s : ByteArray) (w : World) (h0 : ((s.size : Int) == 0) = false) (h20 : decide (20 < (s.size : Int)) = false) (hs : 0 < s.size) (hl : zaO (s[0].toNat : Int) = false) : Calls Try.prog 120 #[.string s] w fun e w' => e = .returned (.bool false) ∧ Below w.heap.size w w':=by
 go_enter Try.func120,Try.ntmps120
 go_wp2_with fail
 refine (zbx _ false hl _).mono ?_
 rintro en w1 ⟨rfl,BW⟩
 go_wp2_with fail
 go_ret
 exact ⟨rfl,BW⟩
set_option maxHeartbeats 2000000 in
set_option maxRecDepth 10000 in
theorem name_main (s : ByteArray) (w : World) (h0 : ((s.size : Int) == 0) = false) (h20 : decide (20 < (s.size : Int)) = false) (hs : 0 < s.size) (hl : zaO (s[0].toNat : Int) = true) (hs2 : s.size ≤ 20) (v : Bool) (hv : ((List.range s.size).all (okS s) && !resS s) = v) : Calls Try.prog 120 #[.string s] w fun e w' => e = .returned (.bool v) ∧ Below w.heap.size w w':=by
 have HV:=Lib.hid hv
 clear hv
 go_enter Try.func120,Try.ntmps120
 go_wp2_with fail
 refine (zbx _ true hl _).mono ?_
 rintro en w1 ⟨rfl,BW⟩
 go_wp2_with fail
 go_loopw [20] (fun i wr => ∃ j : Nat,j ≤ s.size ∧ i = .int .i64 j ∧ (List.range j).all (okS s) = true ∧ Below w.heap.size w wr) (fun i _ => s.size - (intOf i).toNat)
 case atStart => exact ⟨0,Nat.zero_le _,rfl,rfl,BW⟩
 clear BW
 obtain ⟨j,hj,rfl,ha,BW⟩:=hrel
 have HA:=Lib.hid ha
 clear ha
 by_cases hlt : j < s.size
 ·have HB:=Lib.hid (byS_at hlt)
  obtain ⟨x1,hx1⟩ : ∃ x,zaO (s[j].toNat : Int) = x:=⟨_,rfl⟩
  obtain ⟨x2,hx2⟩ : ∃ x,zcD (s[j].toNat : Int) = x:=⟨_,rfl⟩
  obtain ⟨x3,hx3⟩ : ∃ x,((s[j].toNat : Int) == 95) = x:=⟨_,rfl⟩
  have HO : Hid (okS s j = (x1 || (x2 || x3))):=Lib.hid (by unfold okS zbB; rw [byS_at hlt,hx1,hx2,hx3])
  have hx4 : ((s[j].toNat : Int) != 95) = !x3:=by rw [← hx3]; rfl
  clear hx3
  cases x1
  ·cases x2
   ·cases x3
    ·go_wp2_with fail
     refine (zbx _ false hx1 _).mono ?_
     rintro en w2 ⟨rfl,b⟩
     replace BW:=Below.step BW b
     go_wp2_with fail
     refine (zdD _ false hx2 _).mono ?_
     rintro en w3 ⟨rfl,b⟩
     replace BW:=Below.step BW b
     go_wp2_with fail
     go_ret
     exact ⟨zad (by rw [← HV.out,za7 hlt HO.out]; rfl),BW⟩
    go_wp2_with fail
    refine (zbx _ false hx1 _).mono ?_
    rintro en w2 ⟨rfl,b⟩
    replace BW:=Below.step BW b
    go_wp2_with fail
    refine (zdD _ false hx2 _).mono ?_
    rintro en w3 ⟨rfl,b⟩
    replace BW:=Below.step BW b
    go_wp2_with fail
    go_roundw
    case rel => exact ⟨j + 1,by omega,by go_num,zbq HA.out HO.out,BW⟩
    case measure => simp [intOf]; omega
   go_wp2_with fail
   refine (zbx _ false hx1 _).mono ?_
   rintro en w2 ⟨rfl,b⟩
   replace BW:=Below.step BW b
   go_wp2_with fail
   refine (zdD _ true hx2 _).mono ?_
   rintro en w3 ⟨rfl,b⟩
   replace BW:=Below.step BW b
   go_wp2_with fail
   go_roundw
   case rel => exact ⟨j + 1,by omega,by go_num,zbq HA.out HO.out,BW⟩
   case measure => simp [intOf]; omega
  go_wp2_with fail
  refine (zbx _ true hx1 _).mono ?_
  rintro en w2 ⟨rfl,b⟩
  replace BW:=Below.step BW b
  go_wp2_with fail
  go_roundw
  case rel => exact ⟨j + 1,by omega,by go_num,zbq HA.out HO.out,BW⟩
  case measure => simp [intOf]; omega
 have HT : Hid ((List.range s.size).all (okS s) = true):=by
  have e : j = s.size:=by omega
  rw [← e]
  exact HA
 by_cases e0 : (s.toList == [109,111,100,117,108,101]) = true
 ·have HR : Hid (resS s = true):=Lib.hid (by unfold resS; rw [e0]; simp)
  go_wp2_with fail
  go_ret
  exact ⟨zad (by rw [← HV.out,HT.out,HR.out]; rfl),BW⟩
 replace e0 : (s.toList == [109,111,100,117,108,101]) = false:=by simpa using e0
 by_cases e1 : (s.toList == [101,110,100,109,111,100,117,108,101]) = true
 ·have HR : Hid (resS s = true):=Lib.hid (by unfold resS; rw [e1]; simp)
  go_wp2_with fail
  go_ret
  exact ⟨zad (by rw [← HV.out,HT.out,HR.out]; rfl),BW⟩
 replace e1 : (s.toList == [101,110,100,109,111,100,117,108,101]) = false:=by simpa using e1
 by_cases e2 : (s.toList == [105,110,112,117,116]) = true
 ·have HR : Hid (resS s = true):=Lib.hid (by unfold resS; rw [e2]; simp)
  go_wp2_with fail
  go_ret
  exact ⟨zad (by rw [← HV.out,HT.out,HR.out]; rfl),BW⟩
 replace e2 : (s.toList == [105,110,112,117,116]) = false:=by simpa using e2
 by_cases e3 : (s.toList == [111,117,116,112,117,116]) = true
 ·have HR : Hid (resS s = true):=Lib.hid (by unfold resS; rw [e3]; simp)
  go_wp2_with fail
  go_ret
  exact ⟨zad (by rw [← HV.out,HT.out,HR.out]; rfl),BW⟩
 replace e3 : (s.toList == [111,117,116,112,117,116]) = false:=by simpa using e3
 by_cases e4 : (s.toList == [119,105,114,101]) = true
 ·have HR : Hid (resS s = true):=Lib.hid (by unfold resS; rw [e4]; simp)
  go_wp2_with fail
  go_ret
  exact ⟨zad (by rw [← HV.out,HT.out,HR.out]; rfl),BW⟩
 replace e4 : (s.toList == [119,105,114,101]) = false:=by simpa using e4
 by_cases e5 : (s.toList == [97,115,115,105,103,110]) = true
 ·have HR : Hid (resS s = true):=Lib.hid (by unfold resS; rw [e5]; simp)
  go_wp2_with fail
  go_ret
  exact ⟨zad (by rw [← HV.out,HT.out,HR.out]; rfl),BW⟩
 replace e5 : (s.toList == [97,115,115,105,103,110]) = false:=by simpa using e5
 by_cases e6 : (s.toList == [99,108,107]) = true
 ·have HR : Hid (resS s = true):=Lib.hid (by unfold resS; rw [e6]; simp)
  go_wp2_with fail
  go_ret
  exact ⟨zad (by rw [← HV.out,HT.out,HR.out]; rfl),BW⟩
 replace e6 : (s.toList == [99,108,107]) = false:=by simpa using e6
 by_cases e7 : (s.toList == [114,115,116]) = true
 ·have HR : Hid (resS s = true):=Lib.hid (by unfold resS; rw [e7]; simp)
  go_wp2_with fail
  go_ret
  exact ⟨zad (by rw [← HV.out,HT.out,HR.out]; rfl),BW⟩
 replace e7 : (s.toList == [114,115,116]) = false:=by simpa using e7
 have HR : Hid (resS s = false):=Lib.hid (by unfold resS; rw [e0,e1,e2,e3,e4,e5,e6,e7]; rfl)
 go_wp2_with fail
 go_ret
 exact ⟨zad (by rw [← HV.out,HT.out,HR.out]; rfl),BW⟩
theorem name_as (s : ByteArray) (v : Bool) (hv : zbm s = v) (w : World) : Calls Try.prog 120 #[.string s] w fun e w' => e = .returned (.bool v) ∧ Below w.heap.size w w':=by
 unfold zbm at hv
 by_cases h0 : 0 < s.size
 ·have e0 : ((s.size : Int) == 0) = false:=by simp only [beq_eq_false_iff_ne,ne_eq]; omega
  by_cases h20 : s.size ≤ 20
  ·have e20 : decide (20 < (s.size : Int)) = false:=decide_eq_false (by omega)
   rw [decide_eq_true h0,decide_eq_true h20,byS_at h0] at hv
   obtain ⟨x,hx⟩ : ∃ x,zaO (s[0].toNat : Int) = x:=⟨_,rfl⟩
   rw [hx] at hv
   cases x
   ·subst hv
    exact name_first s w e0 e20 h0 hx
   exact name_main s w e0 e20 h0 hx h20 v hv
  rw [decide_eq_true h0,decide_eq_false h20] at hv
  subst hv
  exact name_long s w e0 (decide_eq_true (by omega))
 rw [decide_eq_false h0] at hv
 subst hv
 exact name_empty s w (by simp only [beq_iff_eq]; omega)
theorem Ps.at {w : World} {A : Option Addr} {n : Nat} {L : List Pt} (h : Ps w A n L) {k : Nat} (hk : k < n) : ∃ b off nm A' m c' bs,A = some ⟨b,off,none⟩ ∧ Hid (L[k]? = some ⟨nm,bs⟩) ∧ w.cell? ⟨b,off + k * 2,none⟩ = some (.string nm) ∧ w.cell? ⟨b,off + k * 2 + 1,none⟩ = some (.slice A' m c') ∧ Is w A' m bs:=by
 obtain ⟨⟨nm,bs⟩,hx⟩:=zat h.1 hk
 obtain ⟨b,off,A',m,c,h1,h2,h3,h4,h5,h6,h7⟩:=h.2 k _ hx
 exact ⟨b,off,nm,A',m,c,bs,h1,Lib.hid hx,h3,h4,h7⟩
set_option maxHeartbeats 1000000 in
theorem zbV {A : Option Addr} {n c : Nat} {L : List Pt} {w : World} (h : Ps w A n L) (hn : n ≤ 1000000) (v : Bool) (hv : L.all (fun p => zbm p.name) = v) :
  Calls Try.prog 99 #[.slice A n c] w fun e w' => e = .returned (.bool v) ∧ Below w.heap.size w w':=by
 have HV:=Lib.hid hv
 clear hv
 go_enter Try.func99,Try.ntmps99
 go_wp2_with fail
 go_loopw [7] (fun i wr => ∃ j : Nat,j ≤ n ∧ i = .int .i64 j ∧ (L.take j).all (fun p => zbm p.name) = true ∧ Below w.heap.size w wr) (fun i _ => n - (intOf i).toNat)
 case atStart => exact ⟨0,Nat.zero_le _,rfl,rfl,Below.refl _ _⟩
 obtain ⟨j,hj,rfl,ha,BW⟩:=hrel
 have HA:=Lib.hid ha
 clear ha
 have h1:=h.on BW
 by_cases hlt : j < n
 ·obtain ⟨b0,off,nm,A',m,c',bs,rfl,HX,c1,c2,_⟩:=h1.at hlt
  go_upto_region 4 with fail
  clear c1 c2
  obtain ⟨w1,e_w1,z0,b1⟩:=zmB wr [.string nm,.slice A' m c'] 41
  replace BW:=Below.step BW b1
  rw [e_w1]
  clear e_w1
  have z0c0:=z0.2 0 _ rfl
  have z0c1:=z0.2 1 _ rfl
  obtain ⟨u,hu⟩ : ∃ u,zbm nm = u:=⟨_,rfl⟩
  have HU:=Lib.hid hu
  cases u
  ·have HR:=Lib.hid (zbC (p:=fun p : Pt => zbm p.name) HX.out hu)
   clear hu
   go_wp2_with fail
   refine (name_as nm false HU.out _).mono ?_
   rintro en w9 ⟨rfl,b⟩
   replace BW:=Below.step BW b
   go_wp2_with fail
   go_ret
   exact ⟨zad (by rw [← HV.out,HR.out]),BW⟩
  have HT:=Lib.hid (zbl (p:=fun p : Pt => zbm p.name) HA.out HX.out hu)
  clear hu
  go_wp2_with fail
  refine (name_as nm true HU.out _).mono ?_
  rintro en w9 ⟨rfl,b⟩
  replace BW:=Below.step BW b
  go_wp2_with fail
  go_roundw
  case rel => exact ⟨j + 1,by omega,by go_num,HT.out,BW⟩
  case measure => simp [intOf]; omega
 have HR : Hid (L.all (fun p => zbm p.name) = true):=by
  have:=HA.out
  rw [List.take_of_length_le (by rw [h.1]; omega)] at this
  exact Lib.hid this
 go_wp2_with fail
 go_ret
 exact ⟨zad (by rw [← HV.out,HR.out]),BW⟩
def zaM (n : Int) (p : Pt) : Bool:=decide (p.bits ≠ []) && p.bits.all (zaj n)
theorem Is.at {w : World} {A : Option Addr} {n : Nat} {L : List Int} (h : Is w A n L) {k : Nat} (hk : k < n) : ∃ b off x,A = some ⟨b,off,none⟩ ∧ Hid (L[k]? = some x) ∧ w.cell? ⟨b,off + k,none⟩ = some (.int .i64 x):=by
 obtain ⟨x,hx⟩:=zat h.1 hk
 obtain ⟨b,off,h1,h2,h3⟩:=h.2 k _ hx
 exact ⟨b,off,x,h1,Lib.hid hx,h3⟩
set_option maxHeartbeats 2000000 in
theorem zbP {A : Option Addr} {n c : Nat} {L : List Pt} {w : World} (h : Ps w A n L) (hn : n ≤ 1000000) (hb : ∀ p ∈ L,p.bits.length ≤ 1000000) (M : Int) (v : Bool) (hv : L.all (zaM M) = v) :
  Calls Try.prog 98 #[.slice A n c,.int .i64 M] w fun e w' => e = .returned (.bool v) ∧ Below w.heap.size w w':=by
 have HV:=Lib.hid hv
 have HB:=Lib.hid hb
 clear hv hb
 go_enter Try.func98,Try.ntmps98
 go_wp2_with fail
 go_loopw [11] (fun i wr => ∃ j : Nat,j ≤ n ∧ i = .int .i64 j ∧ (L.take j).all (zaM M) = true ∧ Below w.heap.size w wr) (fun i _ => n - (intOf i).toNat)
 case atStart => exact ⟨0,Nat.zero_le _,rfl,rfl,Below.refl _ _⟩
 obtain ⟨j,hj,rfl,ha,BW⟩:=hrel
 have HA:=Lib.hid ha
 clear ha
 have h1:=h.on BW
 by_cases hlt : j < n
 ·obtain ⟨b0,off,nm,A',m,c',bs,rfl,HX,c1,c2,hi⟩:=h1.at hlt
  have hm : m ≤ 1000000:=by rw [← hi.1]; exact HB.out _ (List.mem_of_getElem? HX.out)
  go_upto_region 4 with fail
  clear c1 c2
  obtain ⟨w1,e_w1,z0,b1⟩:=zmB wr [.string nm,.slice A' m c'] 41
  replace BW:=Below.step BW b1
  rw [e_w1]
  clear e_w1
  have z0c0:=z0.2 0 _ rfl
  have z0c1:=z0.2 1 _ rfl
  replace hi:=hi.on b1
  by_cases h0 : m = 0
  ·have e0 : ((m : Int) == 0) = true:=by simp [h0]
   have HR : Hid (L.all (zaM M) = false):=Lib.hid (zbC HX.out (by
    have : bs = []:=List.eq_nil_of_length_eq_zero (by rw [hi.1]; exact h0)
    unfold zaM; simp [this]))
   clear h0
   go_wp2_with fail
   go_ret
   exact ⟨zad (by rw [← HV.out,HR.out]),BW⟩
  have e0 : ((m : Int) == 0) = false:=by simp only [beq_eq_false_iff_ne,ne_eq]; omega
  have HNE : Hid (bs ≠ []):=Lib.hid (fun e => h0 (by rw [← hi.1,e]; rfl))
  clear h0
  go_wp2_with fail
  have BW0:=BW
  clear BW b1
  go_loopw [22] (fun i wr => ∃ l : Nat,l ≤ m ∧ i = .int .i64 l ∧ (bs.take l).all (zaj M) = true ∧ Below w1.heap.size w1 wr) (fun i _ => m - (intOf i).toNat)
  case atStart => exact ⟨0,Nat.zero_le _,rfl,rfl,Below.refl _ _⟩
  obtain ⟨l,hl,rfl,ha,BW⟩:=hrel
  have HC:=Lib.hid ha
  clear ha
  have hi2:=hi.on BW
  by_cases hlm : l < m
  ·obtain ⟨b2,off2,x,rfl,HX2,cx⟩:=hi2.at hlm
   obtain ⟨u,hu⟩ : ∃ u,zaj M x = u:=⟨_,rfl⟩
   have HU:=Lib.hid hu
   cases u
   ·have HR2:=Lib.hid (zbC (p:=zaj M) HX2.out hu)
    have HR : Hid (L.all (zaM M) = false):=Lib.hid (zbC HX.out (by unfold zaM; rw [HR2.out]; simp))
    clear hu
    go_wp2_with fail
    refine (zcM x M false HU.out _).mono ?_
    rintro en w9 ⟨rfl,b⟩
    replace BW:=Below.step BW b
    go_wp2_with fail
    go_ret
    exact ⟨zad (by rw [← HV.out,HR.out]),Below.step BW0 BW⟩
   have HT:=Lib.hid (zbl (p:=zaj M) HC.out HX2.out hu)
   clear hu
   go_wp2_with fail
   refine (zcM x M true HU.out _).mono ?_
   rintro en w9 ⟨rfl,b⟩
   replace BW:=Below.step BW b
   go_wp2_with fail
   go_roundw
   case rel => exact ⟨l + 1,by omega,by go_num,HT.out,BW⟩
   case measure => simp [intOf]; omega
  have HT : Hid (zaM M ⟨nm,bs⟩ = true):=by
   have:=HC.out
   rw [List.take_of_length_le (by rw [hi.1]; omega)] at this
   exact Lib.hid (by unfold zaM; rw [this]; simp [HNE.out])
  have HT2:=Lib.hid (zbl (p:=zaM M) HA.out HX.out HT.out)
  go_wp2_with fail
  go_roundw
  case rel => exact ⟨j + 1,by omega,by go_num,HT2.out,Below.step BW0 BW⟩
  case measure => simp [intOf]; omega
 have HR : Hid (L.all (zaM M) = true):=by
  have:=HA.out
  rw [List.take_of_length_le (by rw [h.1]; omega)] at this
  exact Lib.hid this
 go_wp2_with fail
 go_ret
 exact ⟨zad (by rw [← HV.out,HR.out]),BW⟩
set_option maxRecDepth 4000
def zdJ (L : List Pt) (j : Nat) : Bool:=match L[j]? with
 | some p => (L.take j).any fun q => p.name.toList == q.name.toList
 | none => false
def dupS (L : List Pt) : Bool:=(List.range L.length).any (zdJ L)
theorem zeJ {p : Nat → Bool} {j : Nat} (h : (List.range j).any p = false) (hx : p j = false) : (List.range (j + 1)).any p = false:=by
 rw [List.range_succ,List.any_append,h]
 simp [hx]
theorem range_any {p : Nat → Bool} {j n : Nat} (hj : j < n) (hx : p j = true) : (List.range n).any p = true:=List.any_eq_true.2 ⟨j,List.mem_range.2 hj,hx⟩
theorem anyn_take {α : Type} {p : α → Bool} {L : List α} {k : Nat} {x : α} (h : (L.take k).any p = false) (hk : L[k]? = some x) (hx : p x = false) : (L.take (k + 1)).any p = false:=by
 rw [List.take_add_one,hk,List.any_append,h]
 simp [hx]
set_option maxHeartbeats 2000000 in
theorem zb1 {A : Option Addr} {n c : Nat} {L : List Pt} {w : World} (h : Ps w A n L) (hn : n ≤ 1000000) (hnc : n ≤ c) (v : Bool) (hv : dupS L = v) :
  Calls Try.prog 100 #[.slice A n c] w fun e w' => e = .returned (.bool v) ∧ Below w.heap.size w w':=by
 have HV:=Lib.hid hv
 clear hv
 go_enter Try.func100,Try.ntmps100
 go_wp2_with fail
 go_loopw [9] (fun i wr => ∃ j : Nat,j ≤ n ∧ i = .int .i64 j ∧ (List.range j).any (zdJ L) = false ∧ Below w.heap.size w wr) (fun i _ => n - (intOf i).toNat)
 case atStart => exact ⟨0,Nat.zero_le _,rfl,rfl,Below.refl _ _⟩
 obtain ⟨j,hj,rfl,ha,BW⟩:=hrel
 have HA:=Lib.hid ha
 clear ha
 have h1:=h.on BW
 by_cases hlt : j < n
 ·obtain ⟨b0,off,nm,A',m0,c0,bs,rfl,HX,k1,k2,_⟩:=h1.at hlt
  have hjc : (j : Int) ≤ (c : Int):=by omega
  go_upto_region 4 with fail
  clear k1 k2
  obtain ⟨w1,e_w1,z0,b1⟩:=zmB wr [.string nm,.slice A' m0 c0] 41
  replace BW:=Below.step BW b1
  rw [e_w1]
  clear e_w1
  go_wp2_with fail
  have H0:=BW
  clear BW b1
  go_loopw [18] (fun i wr => ∃ l : Nat,l ≤ j ∧ i = .int .i64 l ∧ ((L.take j).take l).any (fun q => nm.toList == q.name.toList) = false ∧ Below w1.heap.size w1 wr) (fun i _ => j - (intOf i).toNat)
  case atStart => exact ⟨0,Nat.zero_le _,rfl,rfl,Below.refl _ _⟩
  obtain ⟨l,hl,rfl,ha,BW⟩:=hrel
  have HC:=Lib.hid ha
  clear ha
  replace z0:=z0.on BW
  by_cases hlm : l < j
  ·obtain ⟨b2,off2,nq,A2,m1,c1,bs2,eA,HX2,k1,k2,_⟩:=((h.on H0).on BW).at (show l < n by omega)
   injection eA with eA
   injection eA with e1 e2
   subst e1 e2
   have HX3 : Hid ((L.take j)[l]? = some ⟨nq,bs2⟩):=Lib.hid (by rw [List.getElem?_take,if_pos hlm]; exact HX2.out)
   go_upto_region 7 with fail
   clear k1 k2
   obtain ⟨w2,e_w2,z1,b1⟩:=zmB wr [.string nq,.slice A2 m1 c1] 41
   replace BW:=Below.step BW b1
   rw [e_w2]
   clear e_w2
   have z0c0:=(z0.on b1).2 0 _ rfl
   have z1c0:=z1.2 0 _ rfl
   obtain ⟨u,hu⟩ : ∃ u,(nm.toList == nq.toList) = u:=⟨_,rfl⟩
   cases u
   ·have HT:=Lib.hid (anyn_take (p:=fun q : Pt => nm.toList == q.name.toList) HC.out HX3.out hu)
    go_wp2_with fail
    go_roundw
    case rel => exact ⟨l + 1,by omega,by go_num,HT.out,BW⟩
    case measure => simp [intOf]; omega
   have HR : Hid (dupS L = true):=Lib.hid (range_any (show j < L.length by rw [h.1]; exact hlt) (by
    unfold zdJ
    rw [HX.out]
    exact List.any_eq_true.2 ⟨_,List.mem_of_getElem? HX3.out,hu⟩))
   go_wp2_with fail
   go_ret
   exact ⟨zad (by rw [← HV.out,HR.out]),Below.step H0 BW⟩
  have HT : Hid (zdJ L j = false):=by
   have:=HC.out
   rw [List.take_of_length_le (by rw [List.length_take,h.1]; omega)] at this
   exact Lib.hid (by unfold zdJ; rw [HX.out]; exact this)
  have HT2:=Lib.hid (zeJ HA.out HT.out)
  go_wp2_with fail
  go_roundw
  case rel => exact ⟨j + 1,by omega,by go_num,HT2.out,Below.step H0 BW⟩
  case measure => simp [intOf]; omega
 have HR : Hid (dupS L = false):=by
  have:=HA.out
  have e : j = L.length:=by rw [h.1]; omega
  rw [e] at this
  exact Lib.hid this
 go_wp2_with fail
 go_ret
 exact ⟨zad (by rw [← HV.out,HR.out]),BW⟩
theorem n6made_one (z : Value) (n : Nat) : madeCells #[z] n = (List.replicate n z).toArray:=by
 unfold madeCells
 apply Array.ext
 ·simp
 intro i h1 h2
 simp [Nat.mod_one]
theorem info_parts' {x : Option TypeInfo} {z : Option Value} {s b : Nat} (h : x.map (fun i => (i.zero,i.size,i.bytes)) = some (z,s,b)) : ∃ i,x = some i ∧ i.zero = z ∧ i.size = s ∧ i.bytes = b:=by
 cases x with
 | none => simp at h
 | some i =>
  simp only [Option.map_some,Option.some.injEq,Prod.mk.injEq] at h
  exact ⟨i,rfl,h.1,h.2.1,h.2.2⟩
theorem za2 {P : Program} (w : World) {ops : Array Oper} {rest : List Oper} {o : Oper} {a : Act} {Q : Exit → Act → World → Prop}
  (hg : o.guard = none) (l c : Operand) (t : TypeId) (hop : o.op = Op.makeSlice t l c) (e : TypeId) (z : Value) (by_ : Nat)
  (h1 : P.underlying t = some (.slice e)) (h2 : (P.info? e).map (fun i => (i.zero,i.size,i.bytes)) = some (some z,1,by_)) (hz : z.cells = #[z]) (hb : by_ ≤ 64)
  (L : Int) (n : Nat) (hl : a.eval l = .int .i64 L) (hc : a.eval c = .int .i64 L) (hL : L = (n : Int)) (hn : n ≤ 3000000)
  (hK : ∀ w',Own w' w.heap.size e (List.replicate n z) → Below w.heap.size w w' → w'.heap.size = w.heap.size + 1 → wpList P ops Q rest (a.put o.dst (.slice (some ⟨w.heap.size,0,none⟩) n n)) w') :
  wpList P ops Q (o :: rest) a w:=by
 refine wpList_plain hg fun K hK' => ?_
 obtain ⟨i,hi,i1,i2,i3⟩:=info_parts' h2
 subst hL
 have hby : (i.bytes : Int) * (n : Int) ≤ 281474976710656:=by
  have : i.bytes * n ≤ 64 * 3000000:=Nat.mul_le_mul (by omega) hn
  have h : ((i.bytes * n : Nat) : Int) ≤ 281474976710656:=by omega
  rwa [Int.natCast_mul] at h
 have H0:=run_make (P:=P) w t e i z h1 hi i1 .i64 .i64 n n (by omega) (by omega) hby (by omega)
 rw [Int.toNat_natCast,i2,Nat.mul_one,hz,n6made_one] at H0
 unfold Oper.wp
 simp [execOp,hop,hl,hc,H0,Result.andThen]
 exact hK' _ _ (hK _ (Own.made w e _) ((Below.refl _ _).alloc (Nat.le_refl _) _) (by simp))
theorem zcX : (Try.prog.info? 4).map (fun i => (i.zero,i.size,i.bytes)) = some (some (.bool false),1,1):=by kernel_rfl
def seen (n : Nat) (P : List Int) : List Value:=(List.range n).map fun i : Nat => .bool (decide ((i : Int) ∈ P))
theorem seen_nil (n : Nat) : List.replicate n (Value.bool false) = seen n []:=by
 apply List.ext_getElem
 ·simp [seen]
 intro i h1 h2
 simp [seen]
theorem seen_at {n p : Nat} {P : List Int} (h : p < n) : (seen n P)[p]? = some (.bool (decide ((p : Int) ∈ P))):=by
 unfold seen
 rw [List.getElem?_map,List.getElem?_range h]
 rfl
theorem seen_set {n p : Nat} {P : List Int} (h : p < n) : (seen n P).set p (.bool true) = seen n (P ++ [(p : Int)]):=by
 apply List.ext_getElem?
 intro i
 rw [List.getElem?_set]
 by_cases hi : i < n
 ·rw [seen_at hi,seen_at hi]
  by_cases hp : p = i
  ·subst hp
   simp [seen,h]
  rw [if_neg hp]
  have : (i : Int) ≠ (p : Int):=by omega
  simp [this]
 have h1 : (seen n P)[i]? = none:=by simp [seen]; omega
 have h2 : (seen n (P ++ [(p : Int)]))[i]? = none:=by simp [seen]; omega
 rw [h1,h2,if_neg (by omega)]
def zbD (N : List Nd) (i : Nat) : Int:=match N[i]? with | some y => y.k | none => 0
def zah (L : List Pt) : List Int:=L.flatMap Pt.bits
def zer (N : List Nd) (B : List Int) (i : Nat) : Bool:=decide (B.count (i : Int) = if zbD N i = 1 then 1 else 0)
def fedS (N : List Nd) (L : List Pt) : Bool:=(List.range N.length).all (zer N (zah L))
def Fdp (N : List Nd) (P : List Int) : Prop:=P.Nodup ∧ ∀ i : Nat,(i : Int) ∈ P → zbD N i = 1
theorem Fdp.nil_ (N : List Nd) : Fdp N []:=⟨List.nodup_nil,fun i h => by cases h⟩
theorem Fdp.snoc {N : List Nd} {P : List Int} {p : Nat} (h : Fdp N P) (hk : zbD N p = 1) (hn : decide ((p : Int) ∈ P) = false) : Fdp N (P ++ [(p : Int)]):=by
 refine ⟨List.nodup_append.2 ⟨h.1,by simp,fun a ha b hb e => ?_⟩,fun i hi => ?_⟩
 ·simp only [List.mem_singleton] at hb
  subst e hb
  exact of_decide_eq_false hn ha
 rcases List.mem_append.1 hi with hi | hi
 ·exact h.2 i hi
 simp only [List.mem_singleton] at hi
 have : i = p:=by omega
 subst this
 exact hk
theorem comes_split {L : List Pt} {j : Nat} {nm : ByteArray} {bs : List Int} (hx : L[j]? = some ⟨nm,bs⟩) {l : Nat} {x : Int} (hl : bs[l]? = some x) : ∃ R,zah L = (zah (L.take j) ++ bs.take l) ++ x :: R:=by
 obtain ⟨h1,h2⟩:=List.getElem?_eq_some_iff.1 hx
 obtain ⟨h3,h4⟩:=List.getElem?_eq_some_iff.1 hl
 have e1 : L = L.take j ++ (⟨nm,bs⟩ :: L.drop (j + 1)):=by rw [← h2,← List.drop_eq_getElem_cons h1,List.take_append_drop]
 have e2 : bs = bs.take l ++ (x :: bs.drop (l + 1)):=by rw [← h4,← List.drop_eq_getElem_cons h3,List.take_append_drop]
 refine ⟨bs.drop (l + 1) ++ zah (L.drop (j + 1)),?_⟩
 conv => lhs; rw [e1]
 unfold zah
 rw [List.flatMap_append,List.flatMap_cons]
 conv => lhs; rw [e2]
 simp
theorem zcc {L : List Pt} {j : Nat} {nm : ByteArray} {bs : List Int} (hx : L[j]? = some ⟨nm,bs⟩) : zah (L.take (j + 1)) = zah (L.take j) ++ bs:=by
 unfold zah
 rw [List.take_add_one,hx,List.flatMap_append]
 simp
theorem fed_kind {N : List Nd} {L : List Pt} {P R : List Int} {p : Nat} (he : zah L = P ++ (p : Int) :: R) (hp : p < N.length) (hk : zbD N p ≠ 1) : fedS N L = false:=by
 refine za7 hp ?_
 unfold zer
 rw [he,List.count_append,List.count_cons_self,if_neg hk]
 exact decide_eq_false (by omega)
theorem fed_twice {N : List Nd} {L : List Pt} {P R : List Int} {p : Nat} (he : zah L = P ++ (p : Int) :: R) (hp : p < N.length) (hm : decide ((p : Int) ∈ P) = true) : fedS N L = false:=by
 refine za7 hp ?_
 have:=List.count_pos_iff.2 (of_decide_eq_true hm)
 unfold zer
 rw [he,List.count_append,List.count_cons_self]
 exact decide_eq_false (by split <;> omega)
theorem fed_none {N : List Nd} {L : List Pt} {p : Nat} (hp : p < N.length) (hk : zbD N p = 1) (hm : decide ((p : Int) ∈ zah L) = false) : fedS N L = false:=by
 refine za7 hp ?_
 have:=List.count_eq_zero.2 (of_decide_eq_false hm)
 unfold zer
 rw [this,if_pos hk]
 exact decide_eq_false (by omega)
theorem fed_ok {N : List Nd} {L : List Pt} (h : Fdp N (zah L)) (hall : ∀ i < N.length,zbD N i = 1 → decide ((i : Int) ∈ zah L) = true) : fedS N L = true:=by
 unfold fedS
 rw [List.all_eq_true]
 intro i hi
 have hi:=List.mem_range.1 hi
 unfold zer
 rw [h.1.count]
 by_cases hk : zbD N i = 1
 ·rw [if_pos hk,if_pos (of_decide_eq_true (hall i hi hk))]
  rfl
 rw [if_neg hk,if_neg (fun hm => hk (h.2 i hm))]
 rfl
theorem Own.cells_at {w : World} {g n p : Nat} {P : List Int} {t : TypeId} (h : Own w g t (seen n P)) (hp : p < n) : w.cell? ⟨g,p,none⟩ = some (.bool (decide ((p : Int) ∈ P))):=by
 rw [h.cell p,seen_at hp]
theorem Ps.at0 {w : World} {A : Option Addr} {n : Nat} {L : List Pt} (h : Ps w A n L) {k : Nat} (hk : k < n) : ∃ b off nm A' m c' bs,A = some ⟨b,off,none⟩ ∧ b < w.heap.size ∧ Hid (L[k]? = some ⟨nm,bs⟩) ∧ w.cell? ⟨b,off + k * 2,none⟩ = some (.string nm) ∧ w.cell? ⟨b,off + k * 2 + 1,none⟩ = some (.slice A' m c') ∧ Is w A' m bs:=by
 obtain ⟨⟨nm,bs⟩,hx⟩:=zat h.1 hk
 obtain ⟨b,off,A',m,c,h1,h2,h3,h4,h5,h6,h7⟩:=h.2 k _ hx
 exact ⟨b,off,nm,A',m,c,bs,h1,h2,Lib.hid hx,h3,h4,h7⟩
set_option maxHeartbeats 8000000 in
theorem isFed_as {An Ai Ao : Option Addr} {nn cn ni ci no co : Nat} {N : List Nd} {L : List Pt} {w : World} (hN : Ns w An nn N) (hL : Ps w Ai ni L) (hn : nn ≤ 1000000) (hi : ni ≤ 1000000) (hb : ∀ p ∈ L,p.bits.length ≤ 1000000) (hr : ∀ p ∈ L,∀ x ∈ p.bits,∃ q : Nat,x = (q : Int) ∧ q < nn) (v : Bool) (hv : fedS N L = v) :
  Calls Try.prog 101 #[.agg #[.slice An nn cn,.slice Ai ni ci,.slice Ao no co]] w fun e w' => e = .returned (.bool v) ∧ Below w.heap.size w w':=by
 have HV:=Lib.hid hv
 have HB:=Lib.hid hb
 have HR:=Lib.hid hr
 have H3:=Lib.hid hN.1
 clear hv hb hr
 go_enter Try.func101,Try.ntmps101
 go_upto_region 1 with fail
 obtain ⟨w0,e_w0,z0,B0⟩:=zmB w [.slice An nn cn,.slice Ai ni ci,.slice Ao no co] 25
 rw [e_w0]
 clear e_w0
 replace hN:=hN.on B0
 replace hL:=hL.on B0
 have H0:=z0.2 0 _ rfl
 go_wp2_with (at_make; refine za2 _ rfl _ _ 48 rfl 4 (.bool false) 1 Try.underlying48 zcX rfl (by omega) _ nn rfl rfl rfl (by omega) ?_; intro w1 ho b1 hz1; rw [seen_nil] at ho; have H6:=(z0.on b1).2 1 _ rfl)
 clear H0 H6 hz1
 obtain ⟨g,hg⟩ : ∃ g,w0.heap.size = g:=⟨_,rfl⟩
 rw [hg] at ho ⊢
 go_loopw [17] (fun i wr => ∃ j : Nat,j ≤ ni ∧ i = .int .i64 j ∧ Fdp N (zah (L.take j)) ∧ Own wr g 4 (seen nn (zah (L.take j))) ∧ Below w0.heap.size w0 wr) (fun i _ => ni - (intOf i).toNat)
 case atStart => exact ⟨0,Nat.zero_le _,rfl,Fdp.nil_ N,ho,b1⟩
 clear ho b1
 obtain ⟨j,hj,rfl,hf,ho,BW⟩:=hrel
 have HF:=Lib.hid hf
 clear hf
 by_cases hlt : j < ni
 ·obtain ⟨b0,off,nm,A',m,c',bs,eA,hbw,HX,k1,k2,hi2⟩:=hL.at0 hlt
  subst eA
  replace k1:=(BW.cell (p:=⟨b0,off + j * 2,none⟩) hbw).trans k1
  replace k2:=(BW.cell (p:=⟨b0,off + j * 2 + 1,none⟩) hbw).trans k2
  have hm : m ≤ 1000000:=by rw [← hi2.1]; exact HB.out _ (List.mem_of_getElem? HX.out)
  have HBR : Hid (∀ x ∈ bs,∃ q : Nat,x = (q : Int) ∧ q < nn):=Lib.hid (HR.out _ (List.mem_of_getElem? HX.out))
  go_upto_region 5 with fail
  clear k1 k2
  obtain ⟨w2,e_w2,z1,b2⟩:=zmB wr [.string nm,.slice A' m c'] 41
  rw [e_w2]
  clear e_w2
  have H1:=Own.below ho b2 ho.lt
  have H5:=z1.2 1 _ rfl
  have H4:=Below.step BW b2
  have hi0:=hi2
  clear hi2
  go_wp2_with fail
  go_loopw [24] (fun i wr => ∃ l : Nat,l ≤ m ∧ i = .int .i64 l ∧ Fdp N (zah (L.take j) ++ bs.take l) ∧ Own wr g 4 (seen nn (zah (L.take j) ++ bs.take l)) ∧ Below w0.heap.size w0 wr) (fun i _ => m - (intOf i).toNat)
  case atStart => exact ⟨0,Nat.zero_le _,rfl,by simpa using HF.out,by simpa using H1,H4⟩
  clear ho H1 H5 z1 BW H4 b2
  obtain ⟨l,hl,rfl,hf,ho,BW⟩:=hrel
  have HF2:=Lib.hid hf
  clear hf
  by_cases hlm : l < m
  ·obtain ⟨b3,off3,x,eB,HX2,cx⟩:=(hi0.on BW).at hlm
   subst eB
   obtain ⟨p,ep,hp⟩:=HBR.out x (List.mem_of_getElem? HX2.out)
   subst ep
   obtain ⟨bn,offn,x1,x2,x3,x4,eN,HY,n1,n2,n3,n4⟩:=(hN.on BW).at hp
   subst eN
   have H0:=(z0.on BW).2 0 _ rfl
   have HK : Hid (zbD N p = x1):=Lib.hid (by unfold zbD; rw [HY.out])
   obtain ⟨R,hR⟩:=comes_split HX.out HX2.out
   have HSP:=Lib.hid hR
   clear hR n2 n3 n4
   by_cases h1 : x1 = 1
   ·have e1 : (x1 != 1) = false:=by simp [h1]
    have oc:=ho.cells_at hp
    have of:=ho.free p
    obtain ⟨u,hu⟩ : ∃ u,decide ((p : Int) ∈ zah (L.take j) ++ bs.take l) = u:=⟨_,rfl⟩
    rw [hu] at oc
    cases u
    ·have HT:=Lib.hid (HF2.out.snoc (HK.out.trans h1) hu)
     have H2:=ho.put p (.bool true)
     rw [seen_set hp] at H2
     have BW3:=BW.setCell (p:=⟨g,p,none⟩) (by show w0.heap.size ≤ g; omega) (.bool true)
     go_wp2_with fail
     go_roundw
     case rel =>
      refine ⟨l + 1,by omega,by go_num,?_,?_,BW3⟩
      ·rw [List.take_add_one,HX2.out,← List.append_assoc]; exact HT.out
      rw [List.take_add_one,HX2.out,← List.append_assoc]; exact H2
     case measure => simp [intOf]; omega
    have HE:=Lib.hid (fed_twice HSP.out (by rw [H3.out]; exact hp) hu)
    go_wp2_with fail
    go_ret
    exact ⟨zad (by rw [← HV.out,HE.out]),Below.step B0 BW⟩
   have e1 : (x1 != 1) = true:=by simp [h1]
   have HE:=Lib.hid (fed_kind HSP.out (by rw [H3.out]; exact hp) (by rw [HK.out]; exact h1))
   go_wp2_with fail
   go_ret
   exact ⟨zad (by rw [← HV.out,HE.out]),Below.step B0 BW⟩
  have e : bs.take l = bs:=List.take_of_length_le (by rw [hi0.1]; omega)
  rw [e,← zcc HX.out] at ho
  have HT : Hid (Fdp N (zah (L.take (j + 1)))):=by
   have:=HF2.out
   rw [e,← zcc HX.out] at this
   exact Lib.hid this
  go_wp2_with fail
  go_roundw
  case rel => exact ⟨j + 1,by omega,by go_num,HT.out,ho,BW⟩
  case measure => simp [intOf]; omega
 have e : L.take j = L:=List.take_of_length_le (by rw [hL.1]; omega)
 rw [e] at ho
 have HT : Hid (Fdp N (zah L)):=by
  have:=HF.out
  rw [e] at this
  exact Lib.hid this
 have H0:=(z0.on BW).2 0 _ rfl
 go_wp2_with fail
 obtain ⟨wo,rfl⟩ : ∃ x,x = wr:=⟨_,rfl⟩
 go_loopw [49] (fun i wr => ∃ l : Nat,l ≤ nn ∧ i = .int .i64 l ∧ (∀ i < l,zbD N i = 1 → decide ((i : Int) ∈ zah L) = true) ∧ Below wo.heap.size wo wr) (fun i _ => nn - (intOf i).toNat)
 case atStart => exact ⟨0,Nat.zero_le _,rfl,fun i hi => absurd hi (by omega),Below.refl _ _⟩
 clear H0
 obtain ⟨l,hl,rfl,hk,BR⟩:=hrel
 have H8:=Lib.hid hk
 clear hk
 have H1:=Own.below ho BR ho.lt
 have H4:=Below.step BW BR
 by_cases hlm : l < nn
 ·obtain ⟨bn,offn,x1,x2,x3,x4,eN,HY,n1,n2,n3,n4⟩:=(hN.on H4).at hlm
  subst eN
  have HK : Hid (zbD N l = x1):=Lib.hid (by unfold zbD; rw [HY.out])
  go_upto_region 16 with fail
  clear n1 n2 n3 n4
  obtain ⟨w3,e_w3,z1,b3⟩:=zmB wr [.int .i64 x1,.int .i64 x2,.int .i64 x3,.int .i64 x4] 43
  rw [e_w3]
  clear e_w3
  have H2:=Own.below H1 b3 H1.lt
  have oc:=H2.cells_at hlm
  have z1c0:=z1.2 0 _ rfl
  replace BR:=Below.step BR b3
  by_cases h1 : x1 = 1
  ·have e1 : (x1 == 1) = true:=by simp [h1]
   obtain ⟨u,hu⟩ : ∃ u,decide ((l : Int) ∈ zah L) = u:=⟨_,rfl⟩
   rw [hu] at oc
   cases u
   ·have HE:=Lib.hid (fed_none (by rw [H3.out]; exact hlm) (HK.out.trans h1) hu)
    go_wp2_with fail
    go_ret
    exact ⟨zad (by rw [← HV.out,HE.out]),Below.step B0 (Below.step BW BR)⟩
   have H7 : Hid (∀ i < l + 1,zbD N i = 1 → decide ((i : Int) ∈ zah L) = true):=Lib.hid fun i hi hk => by
    by_cases e : i = l
    ·rw [e]; exact hu
    exact H8.out i (by omega) hk
   go_wp2_with fail
   go_roundw
   case rel => exact ⟨l + 1,by omega,by go_num,H7.out,BR⟩
   case measure => simp [intOf]; omega
  have e1 : (x1 == 1) = false:=by simp [h1]
  have H7 : Hid (∀ i < l + 1,zbD N i = 1 → decide ((i : Int) ∈ zah L) = true):=Lib.hid fun i hi hk => by
   by_cases e : i = l
   ·exact absurd (by rw [e] at hk; exact HK.out.symm.trans hk) h1
   exact H8.out i (by omega) hk
  go_wp2_with fail
  go_roundw
  case rel => exact ⟨l + 1,by omega,by go_num,H7.out,BR⟩
  case measure => simp [intOf]; omega
 have HE:=Lib.hid (fed_ok HT.out fun i hi hk => H8.out i (by rw [H3.out] at hi; omega) hk)
 go_wp2_with fail
 go_ret
 exact ⟨zad (by rw [← HV.out,HE.out]),Below.step B0 (Below.step BW BR)⟩
end Go.Proofs.Ytcehklnonhalhaa
