/-
  What the proofs of OptTells need: Gh Gi Gj.
-/
import Derived.Test.YtcehklnonhalhaaSTGf
import Derived.Laws.CopyOwn
import Derived.Deep.RegionLaw
set_option linter.unusedVariables false
namespace Go.Proofs.Ytcehklnonhalhaa
open Go.RowKit
set_option maxRecDepth 4000
theorem zai (w : World) (a : Addr) (u : Value) : w.grownBy (w.setCell a u) (some a.block):=
 ⟨rfl,rfl,rfl,by simp [World.setCell],fun k hk hne => Below.heap_setCell w a u k (fun e => hne (by rw [e]))⟩
theorem Own.kept {w w' : World} {g : Nat} {t : TypeId} {cs : List Value} {row : Option Nat} (h : Own w g t cs) (hg : w.grownBy w' row) (hne : some g ≠ row) : Own w' g t cs:=(hg.block g h.lt hne).trans h
theorem grown_alloc (w : World) (o : Obj) (row : Option Nat) : w.grownBy (w.alloc o) row:=World.grownBy_alloc w o row
def inN (W : List Nat) : List Value:=(W.map fun i : Nat => (i : Int)).flatMap inC
theorem inN_snoc (W : List Nat) (p : Nat) : inN (W ++ [p]) = inN W ++ [.int .i64 (p : Int)]:=by unfold inN; simp [inC]
theorem inN_at {W : List Nat} {k q : Nat} (h : W[k]? = some q) : (inN W)[k]? = some (.int .i64 (q : Int)):=by
 unfold inN
 have:=zap inC 1 zaC (W.map fun i : Nat => (i : Int)) k 0 (by omega)
 rw [Nat.mul_one,Nat.add_zero] at this
 rw [this,List.getElem?_map,h]
 rfl
def ivs (lv : List Int) : List Value:=lv.map fun x : Int => .int .i64 x
theorem zbU {lv : List Int} {k : Nat} {x : Int} (h : lv[k]? = some x) : (ivs lv)[k]? = some (.int .i64 x):=by unfold ivs; rw [List.getElem?_map,h]; rfl
theorem zc6 (lv : List Int) (k : Nat) (x : Int) : (ivs lv).set k (.int .i64 x) = ivs (lv.set k x):=by unfold ivs; rw [List.map_set]
structure St (w : World) (B g l Bw : Nat) (An : Option Addr) (nn cn n : Nat) (lv : List Int) (A : Option Addr) (c : Nat) (W : List Nat) : Prop where
  var : Own w g 130 [.slice An nn cn,.slice (some ⟨l,0,none⟩) n n,.slice A W.length c]
  lev : Own w l 3 (ivs lv)
  row : w.ownsRow Bw 3 1 (.slice A W.length c) W.length (inN W)
  hg : B ≤ g
  hl : B ≤ l
  gl : g ≠ l
  gw : g < Bw
  lw : l < Bw
  bw : Bw ≤ w.heap.size
  ln : lv.length = n
theorem St.on {w w' : World} {B g l Bw : Nat} {An : Option Addr} {nn cn n : Nat} {lv : List Int} {A : Option Addr} {c : Nat} {W : List Nat} (h : St w B g l Bw An nn cn n lv A c W) (hb : Below w.heap.size w w') : St w' B g l Bw An nn cn n lv A c W:=
 ⟨h.var.below hb h.var.lt,h.lev.below hb h.lev.lt,by
  refine ⟨h.row.1,?_⟩
  rcases h.row.2 with h1 | ⟨b,cap,cur,h1,h2,h3,h4⟩
  ·exact .inl h1
  exact .inr ⟨b,cap,cur,h1,h2,(hb.block b (Array.getElem?_eq_some_iff.1 h3).1).trans h3,h4⟩,h.hg,h.hl,h.gl,h.gw,h.lw,Nat.le_trans h.bw hb.size,h.ln⟩
theorem St.ag {w : World} {B g l Bw : Nat} {An : Option Addr} {nn cn n : Nat} {lv : List Int} {A : Option Addr} {c : Nat} {W : List Nat} (h : St w B g l Bw An nn cn n lv A c W) : ∀ b,A = some ⟨b,0,none⟩ → b ≠ g ∧ b ≠ l:=by
 intro b e
 subst e
 rcases h.row.2 with ⟨h1,_⟩ | ⟨b',cap,cur,h1,h2,_⟩
 ·cases h1
 injection h1 with h1
 injection h1 with h1
 injection h1 with h1
 have:=h.gw
 have:=h.lw
 omega
theorem row_own {w : World} {B : Nat} {e : TypeId} {s : Nat} {A : Option Addr} {n c : Nat} {xs : List Value} (h : w.ownsRow B e s (.slice A n c) n xs) : A = none ∧ n = 0 ∧ c = 0 ∨ ∃ b,A = some ⟨b,0,none⟩ ∧ B ≤ b ∧ b < w.heap.size:=by
 rcases h.2 with ⟨h1,h2⟩ | ⟨b,cap,cur,h1,h2,h3,h4⟩
 ·injection h1 with h1 h3 h4
  exact .inl ⟨h1,h2,h4⟩
 injection h1 with h1 h5 h6
 exact .inr ⟨b,h1,h2,(Array.getElem?_eq_some_iff.1 h3).1⟩
theorem own_ne {w : World} {B : Nat} {e : TypeId} {s : Nat} {A : Option Addr} {n c g : Nat} {xs : List Value} (h : w.ownsRow B e s (.slice A n c) n xs) (hne : ∀ b,A = some ⟨b,0,none⟩ → b ≠ g) : some g ≠ (Value.slice A n c).ownBlock:=by
 rcases row_own h with ⟨rfl,_⟩ | ⟨b,rfl,_⟩
 ·intro e; cases e
 intro e
 injection e with e
 exact hne b rfl e.symm
theorem zdw {w : World} {B : Nat} {e : TypeId} {s : Nat} {A : Option Addr} {n c g : Nat} {xs : List Value} (h : w.ownsRow B e s (.slice A n c) n xs) (hne : ∀ b,A = some ⟨b,0,none⟩ → b ≠ g) : (Value.slice A n c).ownBlock = none ∨ (Value.slice A n c).ownBlock ≠ some g:=.inr fun e => own_ne h hne e.symm
set_option maxHeartbeats 1000000 in
theorem await_as {w : World} {B g l Bw : Nat} {An : Option Addr} {nn cn n : Nat} {lv : List Int} {A : Option Addr} {c : Nat} {W : List Nat} (h : St w B g l Bw An nn cn n lv A c W) (p : Nat) (hp : p < n) (hW : W.length ≤ 600000) :
  Calls Try.prog 103 #[.pointer (some ⟨g,0,none⟩),.int .i64 (p : Int)] w fun en w' => (∃ u,en = .returned u) ∧ ∃ A' c',St w' B g l Bw An nn cn n (lv.set p (-1)) A' c' (W ++ [p]) ∧ Below B w w':=by
 have hBw : B ≤ w.heap.size:=Nat.le_trans h.hg (Nat.le_of_lt h.var.lt)
 have c1:=h.var.cell 1
 have c2:=h.var.cell 2
 simp only [List.getElem?_cons_succ,List.getElem?_cons_zero] at c1 c2
 obtain ⟨x,hx⟩:=zat h.ln hp
 have c3:=(h.lev.cell p).trans (zbU hx)
 have f3:=h.lev.free p
 have G1:=zai w ⟨l,p,none⟩ (.int .i64 (-1))
 obtain ⟨w1,e_w1⟩ : ∃ w1,w.setCell ⟨l,p,none⟩ (.int .i64 (-1)) = w1:=⟨_,rfl⟩
 have L1 : Own w1 l 3 (ivs (lv.set p (-1))):=by rw [← zc6,← e_w1]; exact h.lev.put p _
 have B1 : Below B w w1:=e_w1 ▸ (Below.refl B w).setCell h.hl _
 rw [e_w1] at G1
 have V1:=h.var.kept G1 (fun e => h.gl (by injection e))
 have R1:=h.row.kept G1 (zdw h.row fun b e => (h.ag b e).2)
 have d2:=V1.cell 2
 simp only [List.getElem?_cons_succ,List.getElem?_cons_zero] at d2
 go_enter Try.func103,Try.ntmps103
 go_upto_region 1 with fail
 clear e_w1 c1 c2 c3 f3
 obtain ⟨w2,e_w2⟩ : ∃ w2,w1.alloc (.cells #[.int .i64 (p : Int)] 3) = w2:=⟨_,rfl⟩
 have b2 : Below w1.heap.size w1 w2:=e_w2 ▸ zaa _ _
 have G2 : w1.grownBy w2 none:=e_w2 ▸ grown_alloc w1 _ none
 have V2:=V1.kept G2 (by simp)
 have L2:=L1.kept G2 (by simp)
 have R2 : w2.ownsRow Bw 3 1 (.slice A W.length c) W.length (inN W):=e_w2 ▸ R1.alloc _
 have cn2 : ∀ ad : Addr,(some ⟨w1.heap.size,0,none⟩ : Option Addr) = some ad → ∀ (j : Nat) (u : Value),([.int .i64 (p : Int)] : List Value)[j]? = some u → w2.cell? (ad.add j) = some u:=by
  intro ad e j u hu
  cases e
  rw [zcn,← e_w2,Nat.zero_add,cell_of_row _ w1.heap.size j #[.int .i64 (p : Int)] 3 (0,0) (heap_alloc_new w1 _)]
  simpa using hu
 have B2 : Below B w w2:=B1.trans (b2.mono (Nat.le_trans hBw B1.size))
 go_wp2_with (at_builtin; refine zax (A:=some ⟨w1.heap.size,0,none⟩) (m:=1) (c:=1) rfl _ _ 39 rfl zbI (by omega) (by omega) Bw _ _ _ rfl R2 [.int .i64 (p : Int)] rfl (fun e => by cases e) rfl cn2 (by intro u hu; simp at hu; subst hu; rfl) (by omega) (Nat.le_trans h.bw B2.size) ?_; intro v3 w3 R3 G3; obtain ⟨A3,c3,rfl,sw3,hb3,_⟩:=zaP R3; have V3:=V2.kept G3 (own_ne R2 fun b e => (h.ag b e).1); have d3:=V3.cell 2; have f3:=V3.free 2; simp only [List.getElem?_cons_succ,List.getElem?_cons_zero] at d3)
 have V4:=V3.put 2 (.slice A3 (W.length + 1) c3)
 have G4:=zai w3 ⟨g,2,none⟩ (.slice A3 (W.length + 1) c3)
 have L3:=L2.kept G3 (own_ne R2 fun b e => (h.ag b e).2)
 have hag : ∀ b,A3 = some ⟨b,0,none⟩ → b ≠ g ∧ b ≠ l:=by
  intro b e
  have:=(hb3 b 0 e).1
  have:=h.gw
  have:=h.lw
  omega
 refine bodyPost_end (v:=.tuple #[]) (by simp [results,Try.results103,go_sem]) rfl ?_
 refine ⟨⟨_,rfl⟩,⟨A3,c3,⟨?_,L3.kept G4 (fun e => h.gl (by injection e with e; exact e.symm)),?_,h.hg,h.hl,h.gl,h.gw,h.lw,?_,by rw [List.length_set]; exact h.ln⟩⟩,?_⟩
 ·simpa using V4
 ·have:=R3.kept G4 (zdw R3 fun b e => (hag b e).1)
  rw [inN_snoc]
  simpa using this
 ·exact Nat.le_trans h.bw (Nat.le_trans B2.size (Nat.le_trans G3.size G4.size))
 exact (B2.grown G3 (Nat.le_trans hBw B2.size) (fun k hk => Nat.le_trans h.hg (Nat.le_trans (Nat.le_of_lt h.gw) (R2.lt k hk).1))).setCell h.hg _
set_option maxRecDepth 4000
theorem over_take (f : Nat → Nat) {L : List Int} {j : Nat} {x : Int} (h : L[j]? = some x) : zbk f ((L.take (j + 1)).map Int.toNat) = max (zbk f ((L.take j).map Int.toNat)) (f x.toNat + 1):=by
 unfold zbk
 rw [List.take_add_one,h,List.map_append,List.foldl_append]
 rfl
theorem St.c0 {w : World} {B g l Bw : Nat} {An : Option Addr} {nn cn n : Nat} {lv : List Int} {A : Option Addr} {c : Nat} {W : List Nat} (h : St w B g l Bw An nn cn n lv A c W) : w.cell? ⟨g,0,none⟩ = some (.slice An nn cn) ∧ w.cell? ⟨g,1,none⟩ = some (.slice (some ⟨l,0,none⟩) n n) ∧ w.cell? ⟨g,2,none⟩ = some (.slice A W.length c):=by
 have c0:=h.var.cell 0
 have c1:=h.var.cell 1
 have c2:=h.var.cell 2
 simp only [List.getElem?_cons_succ,List.getElem?_cons_zero] at c0 c1 c2
 exact ⟨c0,c1,c2⟩
theorem St.last {w : World} {B g l Bw : Nat} {An : Option Addr} {nn cn n : Nat} {lv : List Int} {A : Option Addr} {c : Nat} {W : List Nat} {q : Nat} (h : St w B g l Bw An nn cn n lv A c (W ++ [q])) : ∃ bA,A = some ⟨bA,0,none⟩ ∧ w.cell? ⟨bA,W.length,none⟩ = some (.int .i64 (q : Int)) ∧ W.length + 1 ≤ c:=by
 obtain ⟨A',c',e,sw,_,hc⟩:=zaP h.row
 injection e with e1 e2 e3
 subst e1 e3
 obtain ⟨b,e4,e5,e6⟩:=hc W.length (.int .i64 (q : Int)) (inN_at (by simp))
 exact ⟨b,e4,e6,by have:=sw.1; simpa using this⟩
theorem row_pop {w : World} {Bw bA c : Nat} {W : List Nat} {q : Nat} (h : w.ownsRow Bw 3 1 (.slice (some ⟨bA,0,none⟩) (W ++ [q]).length c) (W ++ [q]).length (inN (W ++ [q]))) : w.ownsRow Bw 3 1 (.slice (some ⟨bA,0,none⟩) W.length c) W.length (inN W):=by
 have hl : (inN W).length = W.length:=by unfold inN; rw [zas inC 1 zaC]; simp
 refine ⟨by rw [hl,Nat.mul_one],.inr ?_⟩
 rcases h.2 with ⟨h1,_⟩ | ⟨b,cap,cur,h1,h2,h3,h4,h5,h6,h7⟩
 ·cases h1
 injection h1 with h1 h8 h9
 subst h9
 refine ⟨b,c,cur,by rw [h1],h2,h3,by simp at h4; omega,h5,h6,?_⟩
 have:=congrArg (List.take (W.length * 1)) h7
 rw [List.take_take,inN_snoc,List.take_left' (by rw [hl,Nat.mul_one])] at this
 rw [← this]
 congr 1
 simp
theorem St.hBw {w : World} {B g l Bw : Nat} {An : Option Addr} {nn cn n : Nat} {lv : List Int} {A : Option Addr} {c : Nat} {W : List Nat} (h : St w B g l Bw An nn cn n lv A c W) : B ≤ w.heap.size:=Nat.le_trans h.hg (Nat.le_of_lt h.var.lt)
set_option maxHeartbeats 4000000 in
theorem step_n {w : World} {B g l Bw : Nat} {An : Option Addr} {nn cn : Nat} {lv : List Int} {A : Option Addr} {c : Nat} {W : List Nat} {q : Nat} {N : List Nd} (h : St w B g l Bw An nn cn nn lv A c (W ++ [q])) (hN : Ns w An nn N) (hn : nn ≤ 100000) (hC : Climb N lv (W ++ [q])) (hW : W.length ≤ 500000) {k p r s : Int} (hx : N[q]? = some ⟨k,p,r,s⟩) (m : Nat) (hm : zau k = m) (hk7 : k ≠ 7) (hf : ∀ x ∈ zag ⟨k,p,r,s⟩,∃ q : Nat,x = (q : Int) ∧ q < nn) :
  Calls Try.prog 104 #[.pointer (some ⟨g,0,none⟩)] w fun en w' => (∃ b,en = .returned (.bool b) ∧ (b = false → ∀ f,¬ All N f) ∧ (b = true → ∃ (lv' : List Int) (A' : Option Addr) (c' : Nat) (W' : List Nat),St w' B g l Bw An nn cn nn lv' A' c' W' ∧ Climb N lv' W' ∧ zbQ lv' W' < zbQ lv (W ++ [q]) ∧ W'.length ≤ W.length + 2 ∧ ∀ i : Nat,lv'[i]? = some (-2) → lv[i]? = some (-2))) ∧ Below B w w':=by
 obtain ⟨mm,hmm⟩ : ∃ mm,mm = m:=⟨_,rfl⟩
 subst hmm
 have HM:=Lib.hid hm
 have hm3 : mm ≤ 3:=hm ▸ zbM k
 have hal : (mm : Int) ≤ 3:=by omega
 have e7:=zae hk7
 have H4:=Lib.hid hk7
 obtain ⟨L,hL0⟩ : ∃ L,zag ⟨k,p,r,s⟩ = L:=⟨_,rfl⟩
 have H3:=Lib.hid hL0
 have HLN : Hid (L.length = mm):=Lib.hid (by rw [← hL0,zbo]; exact hm)
 have HL3 : ∀ (j : Nat) (x : Int),j < mm → L[j]? = some x → [Value.int .i64 p,.int .i64 r,.int .i64 s][j]? = some (.int .i64 x):=fun j x h1 h2 => zd1 j x (by rw [hm]; exact h1) (by rw [hL0]; exact h2)
 have HFM : Hid (∀ x ∈ L,∃ q : Nat,x = (q : Int) ∧ q < nn):=Lib.hid (by rw [← hL0]; exact hf)
 clear hm hk7 hf hL0
 have hqn : q < nn:=by rw [← hN.1]; exact (List.getElem?_eq_some_iff.1 hx).1
 have H0 : (W ++ [q]).length = W.length + 1:=by simp
 have q3 : IntKind.i64.wrap (((W.length : Nat) : Int) + 1 - 1) = (W.length : Int):=by rw [IntKind.wrap_i64]; omega
 have i1 : (0 : Int) ≤ (W.length : Int):=by omega
 have i2 : (W.length : Int) < (W.length : Int) + 1:=by omega
 obtain ⟨bA,rfl,wl,hcap⟩:=h.last
 obtain ⟨v0,v1,v2⟩:=h.c0
 rw [H0] at v2
 obtain ⟨bn,offn,rfl,n0b,n0,n1,n2,n3⟩:=hN.2 q _ hx
 have HC:=Lib.hid hC
 have HX:=Lib.hid hx
 have HNN:=Lib.hid hN.1
 clear hC
 go_enter Try.func104,Try.ntmps104
 go_upto_region 2 with fail
 go_cut [4,5] (fun a b wx => a = .int .i64 0 ∧ b = .pointer (some ⟨w.heap.size,0,none⟩) ∧ wx = (w.alloc (.cells #[.int .i64 k,.int .i64 p,.int .i64 r,.int .i64 s] 43)).drew)
 case first =>
  have HS : ∀ w',Below w.heap.size w w' → w'.cell? ⟨g,0,none⟩ = some (.slice (some ⟨bn,offn,none⟩) nn cn) ∧ w'.cell? ⟨g,2,none⟩ = some (.slice (some ⟨bA,0,none⟩) (W.length + 1) c) ∧ w'.cell? ⟨bA,W.length,none⟩ = some (.int .i64 (q : Int)) ∧ w'.cell? ⟨bn,offn + q * 4,none⟩ = some (.int .i64 k) ∧ w'.cell? ⟨bn,offn + q * 4 + 1,none⟩ = some (.int .i64 p) ∧ w'.cell? ⟨bn,offn + q * 4 + 2,none⟩ = some (.int .i64 r) ∧ w'.cell? ⟨bn,offn + q * 4 + 3,none⟩ = some (.int .i64 s):=fun w' hb => by
   have g1:=(h.on hb).c0
   rw [H0] at g1
   obtain ⟨bA',e,wl',_⟩:=(h.on hb).last
   cases e
   obtain ⟨bn',offn',e,m0b,m0,m1,m2,m3⟩:=(hN.on hb).2 q _ hx
   cases e
   exact ⟨g1.1,g1.2.2,wl',m0,m1,m2,m3⟩
  clear v0 v1 v2 wl n0 n1 n2 n3
  go_region_held3 (fun w' => w'.cell? ⟨g,0,none⟩ = some (.slice (some ⟨bn,offn,none⟩) nn cn) ∧ w'.cell? ⟨g,2,none⟩ = some (.slice (some ⟨bA,0,none⟩) (W.length + 1) c) ∧ w'.cell? ⟨bA,W.length,none⟩ = some (.int .i64 (q : Int)) ∧ w'.cell? ⟨bn,offn + q * 4,none⟩ = some (.int .i64 k) ∧ w'.cell? ⟨bn,offn + q * 4 + 1,none⟩ = some (.int .i64 p) ∧ w'.cell? ⟨bn,offn + q * 4 + 2,none⟩ = some (.int .i64 r) ∧ w'.cell? ⟨bn,offn + q * 4 + 3,none⟩ = some (.int .i64 s))
   ((refine HS _ ?_; first | exact (Below.refl _ _).drew | exact ((Below.refl _ _).alloc (Nat.le_refl _) _).drew))
   (fail)
  all_goals go_wp2_with fail
  all_goals go_meet
  all_goals exact ⟨rfl,rfl,rfl⟩
 obtain ⟨rfl,rfl,rfl⟩:=hcut
 obtain ⟨w1,e_w1⟩ : ∃ w',(w.alloc (.cells #[.int .i64 k,.int .i64 p,.int .i64 r,.int .i64 s] 43)).drew = w':=⟨_,rfl⟩
 have b1 : Below w.heap.size w w1:=e_w1 ▸ (zaa _ _).drew
 have z5 : Bx w1 w.heap.size [.int .i64 k,.int .i64 p,.int .i64 r,.int .i64 s]:=e_w1 ▸ (Bx.made_k w rfl #[.int .i64 k,.int .i64 p,.int .i64 r,.int .i64 s] 43).on ((Below.refl _ _).drew)
 rw [e_w1]
 clear e_w1 v0 v1 v2 wl n0 n1 n2 n3 n0b
 obtain ⟨H1,z5c1,z5c2,z5c3⟩:=z5.zb4
 go_wp2_with fail
 refine (zeX k p r s mm HM.out _).mono ?_
 rintro en w2 ⟨rfl,b⟩
 replace z5:=z5.on b
 have BW:=Below.step b1 b
 clear b b1 H1 z5c1 z5c2 z5c3
 go_upto_region 4 with fail
 obtain ⟨w3,e_w3,z6,b3⟩:=zmB w2 [.int .i64 p,.int .i64 r,.int .i64 s] 137
 rw [e_w3]
 clear e_w3
 replace z5:=z5.on b3
 replace BW:=Below.step BW b3
 clear b3
 have H1:=z5.2 0 _ rfl
 go_wp2_with fail
 go_loopw [4,41] (fun a i wr => ∃ j : Nat,j ≤ mm ∧ i = .int .i64 j ∧ a = .int .i64 ((zbk (Fn lv) ((L.take j).map Int.toNat) : Nat) : Int) ∧ (∀ y ∈ L.take j,Kn lv y.toNat) ∧ Below w3.heap.size w3 wr) (fun _ i _ => mm - (intOf i).toNat)
 case atStart => exact ⟨0,Nat.zero_le _,rfl,rfl,fun y hy => by simp at hy,Below.refl _ _⟩
 clear H1
 obtain ⟨j,hj,rfl,rfl,hk,BR⟩:=hrel
 have HK:=Lib.hid hk
 clear hk
 have BX:=Below.step BW BR
 have h3:=h.on BX
 by_cases hlt : j < mm
 ·obtain ⟨x,hxj⟩:=zat HLN.out hlt
  have z6c:=(z6.on BR).2 j (.int .i64 x) (HL3 j x hlt hxj)
  obtain ⟨pj,ep,hpj⟩:=HFM.out x (List.mem_of_getElem? hxj)
  subst ep
  have H2:=Lib.hid hxj
  clear hxj
  obtain ⟨y,hy⟩:=zat h3.ln hpj
  have cl:=(h3.lev.cell pj).trans (zbU hy)
  obtain ⟨_,v1,_⟩:=h3.c0
  have HLD : Hid (Leads N q pj):=Lib.hid ⟨_,HX.out,by
   unfold za0
   rw [if_neg H4.out]
   have:=List.mem_map_of_mem (f:=Int.toNat) (List.mem_of_getElem? H2.out)
   simpa [H3.out] using this⟩
  rcases HC.out.val pj y hy with rfl | rfl | h0
  ·go_wp2_with fail
   refine (await_as h3 pj hpj (by rw [H0]; omega)).mono ?_
   rintro en w4 ⟨⟨u,rfl⟩,A',c',h4,b4⟩
   go_wp2_with fail
   go_ret
   refine ⟨⟨true,rfl,fun e => (by cases e),fun _ => ⟨_,A',c',_,h4,HC.out.await hy (fun V q' e => ?_),zeO hy,by simp,fun i hi => ?_⟩⟩,(BX.mono h.hBw).trans b4⟩
   ·obtain ⟨_,e2⟩:=List.append_inj' e rfl
    injection e2 with e2 _
    subst e2
    exact HLD.out
   rw [zbv (List.getElem?_eq_some_iff.1 hy).1] at hi
   split at hi
   ·injection hi with hi; omega
   exact hi
  ·go_wp2_with fail
   go_ret
   exact ⟨⟨false,rfl,fun _ => HC.out.ring HLD.out hy,fun e => (by cases e)⟩,BX.mono h.hBw⟩
  obtain ⟨d,rfl⟩:=Int.eq_ofNat_of_zero_le h0
  have hkd : Kn lv pj:=⟨d,hy⟩
  have hd : d < nn:=by
   have:=lvd_lt HC.out.lvd hkd
   rw [zdK hy,HNN.out] at this
   exact this
  have qd : IntKind.i64.wrap ((d : Int) + 1) = (d : Int) + 1:=by rw [IntKind.wrap_i64]; omega
  have e1 : ((d : Int) == -1) = false:=by simp only [beq_eq_false_iff_ne,ne_eq]; omega
  have e2 : ((d : Int) == -2) = false:=by simp only [beq_eq_false_iff_ne,ne_eq]; omega
  have HFD:=Lib.hid (zdK hy)
  go_wp2_with fail
  go_roundw
  case rel =>
   refine ⟨j + 1,by omega,by go_num,?_,fun y hy2 => ?_,BR⟩
   ·rw [over_take (Fn lv) H2.out,Int.toNat_natCast,HFD.out]
    simp only [List.map_take]
    congr 1
    split <;> omega
   rw [List.take_add_one,H2.out] at hy2
   rcases List.mem_append.1 hy2 with h5 | h5
   ·exact HK.out y h5
   simp at h5
   subst h5
   simpa using hkd
  case measure => simp [intOf]; omega
 have e9 : L.take j = L:=List.take_of_length_le (by rw [HLN.out]; omega)
 rw [e9]
 have HK2 : Hid (∀ y ∈ za0 ⟨k,p,r,s⟩,Kn lv y):=Lib.hid fun y hy2 => by
  have:=HK.out
  rw [e9] at this
  unfold za0 at hy2
  rw [if_neg H4.out] at hy2
  rw [H3.out] at hy2; obtain ⟨z,h5,rfl⟩:=List.mem_map.1 hy2; exact this z h5
 obtain ⟨D,hD⟩ : ∃ D,zbk (Fn lv) (L.map Int.toNat) = D:=⟨_,rfl⟩
 have HD : Hid (D = zbk (Fn lv) (za0 ⟨k,p,r,s⟩)):=Lib.hid (by
  unfold za0
  rw [if_neg H4.out]
  rw [H3.out]; exact hD.symm)
 rw [hD]
 clear e9 hD
 have hy:=(HC.out.wait q).2 (by simp)
 obtain ⟨_,v1,v2⟩:=h3.c0
 obtain ⟨bA',eb,wl,_⟩:=h3.last
 cases eb
 rw [H0] at v2
 have cl:=(h3.lev.cell q).trans (zbU hy)
 have fl:=h3.lev.free q
 go_upto_region 18 with fail
 obtain ⟨w5,e_w5⟩ : ∃ x,wr.setCell ⟨l,q,none⟩ (.int .i64 (D : Int)) = x:=⟨_,rfl⟩
 have G5 : wr.grownBy w5 (some l):=e_w5 ▸ zai wr ⟨l,q,none⟩ (.int .i64 (D : Int))
 have L5 : Own w5 l 3 (ivs (lv.set q (D : Int))):=by rw [← zc6,← e_w5]; exact h3.lev.put q _
 have V5:=h3.var.kept G5 (fun e => h.gl (by injection e))
 have R5:=h3.row.kept G5 (zdw h3.row fun b e => (h3.ag b e).2)
 have B5 : Below B w w5:=(BX.mono h.hBw).trans (e_w5 ▸ (Below.refl B wr).setCell h.hl _)
 have HS : ∀ x,x = wr ∨ x = w5 → x.drew.cell? ⟨g,1,none⟩ = some (.slice (some ⟨l,0,none⟩) nn nn) ∧ x.drew.cell? ⟨g,2,none⟩ = some (.slice (some ⟨bA,0,none⟩) (W.length + 1) c) ∧ x.drew.cell? ⟨bA,W.length,none⟩ = some (.int .i64 (q : Int)):=fun x hx => by
  rcases hx with rfl | rfl
  ·exact ⟨v1,v2,wl⟩
  have c1:=V5.cell 1
  have c2:=V5.cell 2
  simp only [List.getElem?_cons_succ,List.getElem?_cons_zero] at c1 c2
  rw [H0] at c2
  obtain ⟨A',c',e,sw,_,hc⟩:=zaP R5
  injection e with e1 e2 e3
  obtain ⟨b,e4,e5,e6⟩:=hc W.length (.int .i64 (q : Int)) (inN_at (by simp))
  rw [← e1] at e4
  cases e4
  exact ⟨c1,c2,e6⟩
 clear v1 v2 wl
 go_region_held3 (fun w' => w'.cell? ⟨g,1,none⟩ = some (.slice (some ⟨l,0,none⟩) nn nn) ∧ w'.cell? ⟨g,2,none⟩ = some (.slice (some ⟨bA,0,none⟩) (W.length + 1) c) ∧ w'.cell? ⟨bA,W.length,none⟩ = some (.int .i64 (q : Int)))
  ((first | exact HS _ (.inl rfl) | exact HS _ (.inr rfl) | exact HS _ (.inr e_w5)))
  (fail)
 obtain ⟨w6,e_w6⟩ : ∃ x,w5.drew = x:=⟨_,rfl⟩
 have B6 : Below B w w6:=e_w6 ▸ B5.drew
 have V6 : Own w6 g 130 [.slice (some ⟨bn,offn,none⟩) nn cn,.slice (some ⟨l,0,none⟩) nn nn,.slice (some ⟨bA,0,none⟩) (W ++ [q]).length c]:=by subst e_w6; exact V5
 have L6 : Own w6 l 3 (ivs (lv.set q (D : Int))):=by subst e_w6; exact L5
 have R6 : w6.ownsRow Bw 3 1 (.slice (some ⟨bA,0,none⟩) (W ++ [q]).length c) (W ++ [q]).length (inN (W ++ [q])):=by subst e_w6; exact R5
 have S6 : Bw ≤ w6.heap.size:=by subst e_w6; exact Nat.le_trans h3.bw G5.size
 rw [e_w6]
 clear e_w6 e_w5 HS cl fl
 have d2:=V6.cell 2
 have f2:=V6.free 2
 simp only [List.getElem?_cons_succ,List.getElem?_cons_zero] at d2
 rw [H0] at d2 V6
 have hcc : (W.length : Int) ≤ (c : Int):=by omega
 go_wp2_with fail
 have V7:=V6.put 2 (.slice (some ⟨bA,0,none⟩) W.length c)
 have G7:=zai w6 ⟨g,2,none⟩ (.slice (some ⟨bA,0,none⟩) W.length c)
 have R7:=row_pop R6
 have hag : ∀ b,(some ⟨bA,0,none⟩ : Option Addr) = some ⟨b,0,none⟩ → b ≠ g:=fun b e => (h3.ag b e).1
 go_ret
 refine ⟨⟨true,rfl,fun e => (by cases e),fun _ => ⟨_,_,c,W,⟨?_,L6.kept G7 (fun e => h.gl (by injection e with e; exact e.symm)),R7.kept G7 (zdw R7 hag),h.hg,h.hl,h.gl,h.gw,h.lw,Nat.le_trans S6 G7.size,by rw [List.length_set]; exact h3.ln⟩,HC.out.done HX.out HK2.out HD.out,left_done hy,by omega,fun i hi => ?_⟩⟩,B6.setCell h.hg _⟩
 ·simpa using V7
 rw [zbv (List.getElem?_eq_some_iff.1 hy).1] at hi
 split at hi
 ·injection hi with hi; omega
 exact hi
set_option maxHeartbeats 4000000 in
theorem step_7 {w : World} {B g l Bw : Nat} {An : Option Addr} {nn cn : Nat} {lv : List Int} {A : Option Addr} {c : Nat} {W : List Nat} {q : Nat} {N : List Nd} (h : St w B g l Bw An nn cn nn lv A c (W ++ [q])) (hN : Ns w An nn N) (hn : nn ≤ 100000) (hC : Climb N lv (W ++ [q])) (hW : W.length ≤ 500000) {k p r s : Int} (hx : N[q]? = some ⟨k,p,r,s⟩) (hk7 : k = 7) :
  Calls Try.prog 104 #[.pointer (some ⟨g,0,none⟩)] w fun en w' => (∃ b,en = .returned (.bool b) ∧ (b = false → ∀ f,¬ All N f) ∧ (b = true → ∃ (lv' : List Int) (A' : Option Addr) (c' : Nat) (W' : List Nat),St w' B g l Bw An nn cn nn lv' A' c' W' ∧ Climb N lv' W' ∧ zbQ lv' W' < zbQ lv (W ++ [q]) ∧ W'.length ≤ W.length + 2 ∧ ∀ i : Nat,lv'[i]? = some (-2) → lv[i]? = some (-2))) ∧ Below B w w':=by
 obtain ⟨mm,hm⟩ : ∃ mm,zau k = mm:=⟨_,rfl⟩
 have HM:=Lib.hid hm
 have e7:=zav hk7
 have HK7:=Lib.hid hk7
 obtain ⟨L,hL0⟩ : ∃ L : List Int,L = []:=⟨_,rfl⟩
 have HL0:=Lib.hid hL0
 have HLN : Hid (L.length = 0):=Lib.hid (by rw [hL0]; rfl)
 clear hm hk7 hL0
 have hqn : q < nn:=by rw [← hN.1]; exact (List.getElem?_eq_some_iff.1 hx).1
 have H0 : (W ++ [q]).length = W.length + 1:=by simp
 have q3 : IntKind.i64.wrap (((W.length : Nat) : Int) + 1 - 1) = (W.length : Int):=by rw [IntKind.wrap_i64]; omega
 have i1 : (0 : Int) ≤ (W.length : Int):=by omega
 have i2 : (W.length : Int) < (W.length : Int) + 1:=by omega
 obtain ⟨bA,rfl,wl,hcap⟩:=h.last
 obtain ⟨v0,v1,v2⟩:=h.c0
 rw [H0] at v2
 obtain ⟨bn,offn,rfl,n0b,n0,n1,n2,n3⟩:=hN.2 q _ hx
 have HC:=Lib.hid hC
 have HX:=Lib.hid hx
 have HNN:=Lib.hid hN.1
 clear hC
 go_enter Try.func104,Try.ntmps104
 go_upto_region 2 with fail
 go_cut [4,5] (fun a b wx => a = .int .i64 0 ∧ b = .pointer (some ⟨w.heap.size,0,none⟩) ∧ wx = (w.alloc (.cells #[.int .i64 k,.int .i64 p,.int .i64 r,.int .i64 s] 43)).drew)
 case first =>
  have HS : ∀ w',Below w.heap.size w w' → w'.cell? ⟨g,0,none⟩ = some (.slice (some ⟨bn,offn,none⟩) nn cn) ∧ w'.cell? ⟨g,2,none⟩ = some (.slice (some ⟨bA,0,none⟩) (W.length + 1) c) ∧ w'.cell? ⟨bA,W.length,none⟩ = some (.int .i64 (q : Int)) ∧ w'.cell? ⟨bn,offn + q * 4,none⟩ = some (.int .i64 k) ∧ w'.cell? ⟨bn,offn + q * 4 + 1,none⟩ = some (.int .i64 p) ∧ w'.cell? ⟨bn,offn + q * 4 + 2,none⟩ = some (.int .i64 r) ∧ w'.cell? ⟨bn,offn + q * 4 + 3,none⟩ = some (.int .i64 s):=fun w' hb => by
   have g1:=(h.on hb).c0
   rw [H0] at g1
   obtain ⟨bA',e,wl',_⟩:=(h.on hb).last
   cases e
   obtain ⟨bn',offn',e,m0b,m0,m1,m2,m3⟩:=(hN.on hb).2 q _ hx
   cases e
   exact ⟨g1.1,g1.2.2,wl',m0,m1,m2,m3⟩
  clear v0 v1 v2 wl n0 n1 n2 n3
  go_region_held3 (fun w' => w'.cell? ⟨g,0,none⟩ = some (.slice (some ⟨bn,offn,none⟩) nn cn) ∧ w'.cell? ⟨g,2,none⟩ = some (.slice (some ⟨bA,0,none⟩) (W.length + 1) c) ∧ w'.cell? ⟨bA,W.length,none⟩ = some (.int .i64 (q : Int)) ∧ w'.cell? ⟨bn,offn + q * 4,none⟩ = some (.int .i64 k) ∧ w'.cell? ⟨bn,offn + q * 4 + 1,none⟩ = some (.int .i64 p) ∧ w'.cell? ⟨bn,offn + q * 4 + 2,none⟩ = some (.int .i64 r) ∧ w'.cell? ⟨bn,offn + q * 4 + 3,none⟩ = some (.int .i64 s))
   ((refine HS _ ?_; first | exact (Below.refl _ _).drew | exact ((Below.refl _ _).alloc (Nat.le_refl _) _).drew))
   (fail)
  all_goals go_wp2_with fail
  all_goals go_meet
  all_goals exact ⟨rfl,rfl,rfl⟩
 obtain ⟨rfl,rfl,rfl⟩:=hcut
 obtain ⟨w1,e_w1⟩ : ∃ w',(w.alloc (.cells #[.int .i64 k,.int .i64 p,.int .i64 r,.int .i64 s] 43)).drew = w':=⟨_,rfl⟩
 have b1 : Below w.heap.size w w1:=e_w1 ▸ (zaa _ _).drew
 have z5 : Bx w1 w.heap.size [.int .i64 k,.int .i64 p,.int .i64 r,.int .i64 s]:=e_w1 ▸ (Bx.made_k w rfl #[.int .i64 k,.int .i64 p,.int .i64 r,.int .i64 s] 43).on ((Below.refl _ _).drew)
 rw [e_w1]
 clear e_w1 v0 v1 v2 wl n0 n1 n2 n3 n0b
 obtain ⟨H1,z5c1,z5c2,z5c3⟩:=z5.zb4
 go_wp2_with fail
 refine (zeX k p r s mm HM.out _).mono ?_
 rintro en w2 ⟨rfl,b⟩
 replace z5:=z5.on b
 have BW:=Below.step b1 b
 clear b b1 H1 z5c1 z5c2 z5c3
 go_upto_region 4 with fail
 obtain ⟨w3,e_w3,z6,b3⟩:=zmB w2 [.int .i64 p,.int .i64 r,.int .i64 s] 137
 rw [e_w3]
 clear e_w3
 replace z5:=z5.on b3
 replace BW:=Below.step BW b3
 clear b3
 have H1:=z5.2 0 _ rfl
 go_wp2_with fail
 go_loopw [4,41] (fun a i wr => ∃ j : Nat,j ≤ 0 ∧ i = .int .i64 j ∧ a = .int .i64 ((zbk (Fn lv) ((L.take j).map Int.toNat) : Nat) : Int) ∧ (∀ y ∈ L.take j,Kn lv y.toNat) ∧ Below w3.heap.size w3 wr) (fun _ i _ => 0 - (intOf i).toNat)
 case atStart => exact ⟨0,Nat.zero_le _,rfl,rfl,fun y hy => by simp at hy,Below.refl _ _⟩
 clear H1
 obtain ⟨j,hj,rfl,rfl,hk,BR⟩:=hrel
 have HK:=Lib.hid hk
 clear hk
 have BX:=Below.step BW BR
 have h3:=h.on BX
 by_cases hlt : j < 0
 ·exact absurd hlt (by omega)
 have e9 : L.take j = L:=List.take_of_length_le (by rw [HLN.out]; omega)
 rw [e9]
 have HK2 : Hid (∀ y ∈ za0 ⟨k,p,r,s⟩,Kn lv y):=Lib.hid fun y hy2 => by
  have:=HK.out
  rw [e9] at this
  unfold za0 at hy2
  rw [if_pos HK7.out] at hy2
  cases hy2
 obtain ⟨D,hD⟩ : ∃ D,zbk (Fn lv) (L.map Int.toNat) = D:=⟨_,rfl⟩
 have HD : Hid (D = zbk (Fn lv) (za0 ⟨k,p,r,s⟩)):=Lib.hid (by
  unfold za0
  rw [if_pos HK7.out]
  rw [← hD,HL0.out]; rfl)
 rw [hD]
 clear e9 hD
 have hy:=(HC.out.wait q).2 (by simp)
 obtain ⟨_,v1,v2⟩:=h3.c0
 obtain ⟨bA',eb,wl,_⟩:=h3.last
 cases eb
 rw [H0] at v2
 have cl:=(h3.lev.cell q).trans (zbU hy)
 have fl:=h3.lev.free q
 go_upto_region 18 with fail
 obtain ⟨w5,e_w5⟩ : ∃ x,wr.setCell ⟨l,q,none⟩ (.int .i64 (D : Int)) = x:=⟨_,rfl⟩
 have G5 : wr.grownBy w5 (some l):=e_w5 ▸ zai wr ⟨l,q,none⟩ (.int .i64 (D : Int))
 have L5 : Own w5 l 3 (ivs (lv.set q (D : Int))):=by rw [← zc6,← e_w5]; exact h3.lev.put q _
 have V5:=h3.var.kept G5 (fun e => h.gl (by injection e))
 have R5:=h3.row.kept G5 (zdw h3.row fun b e => (h3.ag b e).2)
 have B5 : Below B w w5:=(BX.mono h.hBw).trans (e_w5 ▸ (Below.refl B wr).setCell h.hl _)
 have HS : ∀ x,x = wr ∨ x = w5 → x.drew.cell? ⟨g,1,none⟩ = some (.slice (some ⟨l,0,none⟩) nn nn) ∧ x.drew.cell? ⟨g,2,none⟩ = some (.slice (some ⟨bA,0,none⟩) (W.length + 1) c) ∧ x.drew.cell? ⟨bA,W.length,none⟩ = some (.int .i64 (q : Int)):=fun x hx => by
  rcases hx with rfl | rfl
  ·exact ⟨v1,v2,wl⟩
  have c1:=V5.cell 1
  have c2:=V5.cell 2
  simp only [List.getElem?_cons_succ,List.getElem?_cons_zero] at c1 c2
  rw [H0] at c2
  obtain ⟨A',c',e,sw,_,hc⟩:=zaP R5
  injection e with e1 e2 e3
  obtain ⟨b,e4,e5,e6⟩:=hc W.length (.int .i64 (q : Int)) (inN_at (by simp))
  rw [← e1] at e4
  cases e4
  exact ⟨c1,c2,e6⟩
 clear v1 v2 wl
 go_region_held3 (fun w' => w'.cell? ⟨g,1,none⟩ = some (.slice (some ⟨l,0,none⟩) nn nn) ∧ w'.cell? ⟨g,2,none⟩ = some (.slice (some ⟨bA,0,none⟩) (W.length + 1) c) ∧ w'.cell? ⟨bA,W.length,none⟩ = some (.int .i64 (q : Int)))
  ((first | exact HS _ (.inl rfl) | exact HS _ (.inr rfl) | exact HS _ (.inr e_w5)))
  (fail)
 obtain ⟨w6,e_w6⟩ : ∃ x,w5.drew = x:=⟨_,rfl⟩
 have B6 : Below B w w6:=e_w6 ▸ B5.drew
 have V6 : Own w6 g 130 [.slice (some ⟨bn,offn,none⟩) nn cn,.slice (some ⟨l,0,none⟩) nn nn,.slice (some ⟨bA,0,none⟩) (W ++ [q]).length c]:=by subst e_w6; exact V5
 have L6 : Own w6 l 3 (ivs (lv.set q (D : Int))):=by subst e_w6; exact L5
 have R6 : w6.ownsRow Bw 3 1 (.slice (some ⟨bA,0,none⟩) (W ++ [q]).length c) (W ++ [q]).length (inN (W ++ [q])):=by subst e_w6; exact R5
 have S6 : Bw ≤ w6.heap.size:=by subst e_w6; exact Nat.le_trans h3.bw G5.size
 rw [e_w6]
 clear e_w6 e_w5 HS cl fl
 have d2:=V6.cell 2
 have f2:=V6.free 2
 simp only [List.getElem?_cons_succ,List.getElem?_cons_zero] at d2
 rw [H0] at d2 V6
 have hcc : (W.length : Int) ≤ (c : Int):=by omega
 go_wp2_with fail
 have V7:=V6.put 2 (.slice (some ⟨bA,0,none⟩) W.length c)
 have G7:=zai w6 ⟨g,2,none⟩ (.slice (some ⟨bA,0,none⟩) W.length c)
 have R7:=row_pop R6
 have hag : ∀ b,(some ⟨bA,0,none⟩ : Option Addr) = some ⟨b,0,none⟩ → b ≠ g:=fun b e => (h3.ag b e).1
 go_ret
 refine ⟨⟨true,rfl,fun e => (by cases e),fun _ => ⟨_,_,c,W,⟨?_,L6.kept G7 (fun e => h.gl (by injection e with e; exact e.symm)),R7.kept G7 (zdw R7 hag),h.hg,h.hl,h.gl,h.gw,h.lw,Nat.le_trans S6 G7.size,by rw [List.length_set]; exact h3.ln⟩,HC.out.done HX.out HK2.out HD.out,left_done hy,by omega,fun i hi => ?_⟩⟩,B6.setCell h.hg _⟩
 ·simpa using V7
 rw [zbv (List.getElem?_eq_some_iff.1 hy).1] at hi
 split at hi
 ·injection hi with hi; omega
 exact hi
theorem step_as {w : World} {B g l Bw : Nat} {An : Option Addr} {nn cn : Nat} {lv : List Int} {A : Option Addr} {c : Nat} {W : List Nat} {q : Nat} {N : List Nd} (h : St w B g l Bw An nn cn nn lv A c (W ++ [q])) (hN : Ns w An nn N) (hn : nn ≤ 100000) (hC : Climb N lv (W ++ [q])) (hW : W.length ≤ 500000) (hf : N.all (zaf nn) = true) :
  Calls Try.prog 104 #[.pointer (some ⟨g,0,none⟩)] w fun en w' => (∃ b,en = .returned (.bool b) ∧ (b = false → ∀ f,¬ All N f) ∧ (b = true → ∃ (lv' : List Int) (A' : Option Addr) (c' : Nat) (W' : List Nat),St w' B g l Bw An nn cn nn lv' A' c' W' ∧ Climb N lv' W' ∧ zbQ lv' W' < zbQ lv (W ++ [q]) ∧ W'.length ≤ W.length + 2 ∧ ∀ i : Nat,lv'[i]? = some (-2) → lv[i]? = some (-2))) ∧ Below B w w':=by
 have hq : q < N.length:=by
  have:=(List.getElem?_eq_some_iff.1 ((hC.wait q).2 (by simp))).1
  rw [hC.len] at this
  exact this
 obtain ⟨⟨k,p,r,s⟩,hx⟩ : ∃ x,N[q]? = some x:=⟨N[q],List.getElem?_eq_getElem hq⟩
 by_cases hk : k = 7
 ·exact step_7 h hN hn hC hW hx hk
 refine step_n h hN hn hC hW hx _ rfl hk fun x hxm => ?_
 have h1:=List.all_eq_true.1 hf _ (List.mem_of_getElem? hx)
 unfold zaf at h1
 have h2:=(Bool.and_eq_true_iff.1 (Bool.and_eq_true_iff.1 (Bool.and_eq_true_iff.1 h1).2).2).1
 have h3:=List.all_eq_true.1 h2 x hxm
 unfold zaj at h3
 obtain ⟨h4,h5⟩:=Bool.and_eq_true_iff.1 h3
 have h4:=of_decide_eq_true h4
 have h5:=of_decide_eq_true h5
 exact ⟨x.toNat,by omega,by omega⟩
set_option maxRecDepth 4000
theorem and_u64' (a b : Nat) (ha : a < 18446744073709551616) (hb : b < 18446744073709551616) : bits .and .u64 (a : Int) (b : Int) = ((a &&& b : Nat) : Int):=by
 have hx : a &&& b < 2 ^ 64:=Nat.and_lt_two_pow a (by omega)
 have h1 : ∀ a : Nat,a < 18446744073709551616 → (BitVec.ofInt 64 (a : Int)).toNat = a:=fun a ha => by
  rw [BitVec.ofInt_natCast,BitVec.toNat_ofNat]; exact Nat.mod_eq_of_lt (by omega)
 show IntKind.u64.wrap ((BitVec.ofInt 64 (a : Int) &&& BitVec.ofInt 64 (b : Int)).toNat : Int) = _
 rw [BitVec.toNat_and,h1 a ha,h1 b hb,IntKind.wrap_u64]
 omega
theorem mul64_one (n : Nat) (hn : n ≤ 1000000) (w : World) : Calls Try.prog 135 #[.int .u64 1,.int .u64 (n : Int)] w fun e w' => e = .returned (.tuple #[.int .u64 0,.int .u64 (n : Int)]) ∧ w = w':=by
 have h2 : bits .and .u64 (n : Int) 4294967295 = (n : Int):=by
  have:=and_u64' n 4294967295 (by omega) (by omega)
  have e : n &&& 4294967295 = n:=by
   have:=Nat.and_two_pow_sub_one_eq_mod n 32
   rw [show (2 ^ 32 - 1 : Nat) = 4294967295 by decide] at this
   rw [this]
   omega
  rw [e] at this
  exact this
 have h1 : bits .and .u64 1 4294967295 = 1:=by decide
 have h7 : bits .and .u64 0 4294967295 = 0:=by decide
 have h3 : (n : Int) / 4294967296 = 0:=by omega
 have h4 : IntKind.u64.wrap (n : Int) = (n : Int):=by rw [IntKind.wrap_u64]; omega
 go_enter Try.func135,Try.ntmps135
 go_wp2_with fail
 go_ret2
 exact ⟨rfl,rfl⟩
theorem mul_one' (n : Nat) (hn : n ≤ 1000000) (w : World) : Calls Try.prog 121 #[.int .u64 1,.int .u64 (n : Int)] w fun e w' => e = .returned (.tuple #[.int .u64 0,.int .u64 (n : Int)]) ∧ w = w':=by
 go_enter Try.func121,Try.ntmps121
 go_wp2_with fail
 refine (mul64_one n hn _).mono ?_
 rintro e w' ⟨rfl,rfl⟩
 go_wp2_with fail
 go_ret2
 exact ⟨rfl,rfl⟩
theorem zdT : (Try.prog.info? 3).map (fun i => (i.zero,i.size,i.bytes)) = some (some (.int .i64 0),1,8):=by kernel_rfl
theorem int_size : (Try.prog.info? 3).map (·.size) = some 1:=by kernel_rfl
def zbG (k n : Nat) : List Value:=List.replicate k (.int .i64 (-2)) ++ List.replicate (n - k) (.int .i64 0)
theorem zeR {k n : Nat} (h : k ≤ n) : (zbG k n).length = n:=by unfold zbG; simp; omega
theorem filled_at {k n j : Nat} (h : j < k) : (zbG k n)[j]? = some (.int .i64 (-2)):=by
 unfold zbG
 rw [List.getElem?_append_left (by simpa using h),List.getElem?_replicate,if_pos h]
theorem zdb {k n m : Nat} (h : k + m ≤ n) : splice (zbG k n) k (List.replicate m (.int .i64 (-2))) = zbG (k + m) n:=by
 unfold splice zbG
 rw [List.take_left' (by simp),List.length_replicate,List.drop_append,List.drop_eq_nil_of_le (by simp),List.length_replicate,List.nil_append,List.drop_replicate,← List.append_assoc,List.replicate_append_replicate]
 congr 2
 omega
set_option maxHeartbeats 400000 in
theorem repeat_as (n : Nat) (hn : n ≤ 100000) {s : Nat} {w : World} (z : Bx w s [.int .i64 (-2)]) :
  Calls Try.prog 102 #[.slice (some ⟨s,0,none⟩) 1 1,.int .i64 (n : Int)] w fun en w' => ∃ l,en = .returned (.slice (some ⟨l,0,none⟩) n n) ∧ w.heap.size ≤ l ∧ Own w' l 3 (ivs (List.replicate n (-2))) ∧ Below w.heap.size w w':=by
 have d1 : decide ((n : Int) < 0) = false:=decide_eq_false (by omega)
 have d2 : decide (9223372036854775807 < (n : Int)) = false:=decide_eq_false (by omega)
 have q1 : IntKind.u64.wrap (n : Int) = (n : Int):=by rw [IntKind.wrap_u64]; omega
 have q2 : IntKind.i64.wrap (n : Int) = (n : Int):=by rw [IntKind.wrap_i64]; omega
 go_enter Try.func102,Try.ntmps102
 go_wp2_with fail
 refine (mul_one' n (by omega) _).mono ?_
 rintro e w1 ⟨rfl,rfl⟩
 go_upto_region 7 with (at_make; refine za2 _ rfl _ _ 39 rfl 3 (.int .i64 0) 8 Try.underlying39 zdT rfl (by omega) _ n rfl rfl rfl (by omega) ?_; intro w1 ho b1 hz1)
 obtain ⟨g,hg⟩ : ∃ g,w.heap.size = g:=⟨_,rfl⟩
 have H1 : w.heap.size ≤ g:=by omega
 rw [hg] at ho ⊢
 have z1:=z.on b1
 have ho0 : Own w1 g 3 (zbG 0 n):=by unfold zbG; simpa using ho
 obtain ⟨k0,hk0⟩ : ∃ k,Nat.min 1 n = k:=⟨_,rfl⟩
 have hk1 : k0 ≤ n ∧ (k0 = 0 → n = 0) ∧ k0 ≤ 1:=by
  have : Nat.min 1 n = min 1 n:=rfl
  omega
 have H0 : 0 < (List.replicate k0 (Value.int .i64 (-2))).length → (some ⟨g,0,none⟩ : Option Addr) = some ⟨g,0,none⟩ ∧ ∃ ad,(some ⟨s,0,none⟩ : Option Addr) = some ad ∧ ∀ (j : Nat) (v : Value),(List.replicate k0 (Value.int .i64 (-2)))[j]? = some v → w1.cell? (ad.add j) = some v:=fun _ => ⟨rfl,_,rfl,fun j v hv => by
  rw [List.getElem?_replicate] at hv
  split at hv
  ·rename_i hj
   obtain rfl : j = 0:=by omega
   cases hv
   rw [zcn]
   exact z1.2 0 _ rfl
  cases hv⟩
 go_wp2_with (refine wpList_copy_splice rfl (.tmp 31) (.tmp 32) 39 39 rfl 3 Try.underlying39 int_size _ _ _ _ _ _ rfl rfl g 0 (zbG 0 n) 3 ho0 (List.replicate k0 (.int .i64 (-2))) (by rw [List.length_replicate]; exact hk0.symm) H0 (by rw [zeR (by omega),List.length_replicate]; omega) (by intro v hv; rw [(List.mem_replicate.1 hv).2]; rfl) w.heap.size w b1 H1 ?_; intro w2 hg2 b2)
 have ho2 : Own w2 g 3 (zbG k0 n):=by
  have:=hg2.out
  rw [zdb (by omega)] at this
  unfold Own
  simpa using this
 clear hg2 ho ho0 H0 z1 b1 hz1 hg
 go_loopw [8] (fun i wr => ∃ k : Nat,k ≤ n ∧ (k = 0 → n = 0) ∧ i = .int .i64 k ∧ Own wr g 3 (zbG k n) ∧ Below w.heap.size w wr) (fun i _ => n - (intOf i).toNat)
 case atStart => exact ⟨k0,hk1.1,hk1.2.1,rfl,ho2,b2⟩
 clear ho2 b2
 obtain ⟨k,hk,hkz,rfl,ho,BW⟩:=hrel
 by_cases hlt : k < n
 ·obtain ⟨m,hm⟩ : ∃ m,Nat.min k (n - k) = m:=⟨_,rfl⟩
  have hm2 : 0 < m ∧ k + m ≤ n ∧ m ≤ k:=by
   have : Nat.min k (n - k) = min k (n - k):=rfl
   omega
  have i0 : (0 : Int) ≤ (k : Int):=by omega
  have i1 : (k : Int) ≤ (n : Int):=by omega
  have i2 : ¬ n = k:=by omega
  have q3 : IntKind.i64.wrap ((k : Int) + (m : Int)) = (k : Int) + (m : Int):=by rw [IntKind.wrap_i64]; omega
  have H0 : 0 < (List.replicate m (Value.int .i64 (-2))).length → (some ⟨g,k,none⟩ : Option Addr) = some ⟨g,k,none⟩ ∧ ∃ ad,(some ⟨g,0,none⟩ : Option Addr) = some ad ∧ ∀ (j : Nat) (v : Value),(List.replicate m (Value.int .i64 (-2)))[j]? = some v → wr.drew.cell? (ad.add j) = some v:=fun _ => ⟨rfl,_,rfl,fun j v hv => by
   rw [List.getElem?_replicate] at hv
   split at hv
   ·rename_i hj
    cases hv
    rw [zcn,Nat.zero_add]
    exact (ho.cell j).trans (filled_at (by omega))
   cases hv⟩
  go_upto_region 9 with fail
  go_region_law (refine step_copy_splice rfl (.tmp 41) (.tmp 44) 39 39 rfl 3 Try.underlying39 int_size (some ⟨g,k,none⟩) (some ⟨g,0,none⟩) (n - k) (n - k) k n (by kernel_rfl) (by kernel_rfl) g k (zbG k n) 3 ho (List.replicate m (.int .i64 (-2))) (by rw [List.length_replicate]; exact hm.symm) H0 (by rw [zeR (by omega),List.length_replicate]; omega) (by intro v hv; rw [(List.mem_replicate.1 hv).2]; rfl) w.heap.size w BW.drew H1 ?_; intro w4 hg4 hb4)
  have ho4 : Own w4 g 3 (zbG (k + m) n):=by
   have:=hg4.out
   rw [zdb (by omega)] at this
   unfold Own
   simpa using this
  go_wp2_with fail
  go_roundw
  case rel => exact ⟨k + m,by omega,by omega,by omega,ho4⟩
  case measure => simp [intOf]; omega
 obtain rfl : k = n:=by omega
 go_wp2_with fail
 go_ret
 refine ⟨g,rfl,H1,?_,BW⟩
 have : zbG k k = ivs (List.replicate k (-2)):=by unfold zbG ivs; simp
 rw [← this]
 exact ho
theorem snoc_cases (W : List Nat) : W = [] ∨ ∃ V q,W = V ++ [q]:=by
 rcases List.eq_nil_or_concat W with h | ⟨V,q,h⟩
 ·exact .inl h
 exact .inr ⟨V,q,by rw [h,List.concat_eq_append]⟩
def isM2 : Value → Bool
 | .int _ x => decide (x = -2)
 | _ => false
def leftW (l g : Nat) (w : World) : Nat:=2 * (match w.heap[l]? with | some (.cells cs _ _) => cs.toList.countP isM2 | _ => 0) + (match w.cell? ⟨g,2,none⟩ with | some (.slice _ n _) => n | _ => 0)
theorem count_ivs (lv : List Int) : (ivs lv).countP isM2 = lv.count (-2):=by
 unfold ivs
 rw [List.countP_map]
 unfold List.count
 refine List.countP_congr fun x _ => ?_
 simp [isM2]
theorem zdS {w : World} {B g l Bw : Nat} {An : Option Addr} {nn cn n : Nat} {lv : List Int} {A : Option Addr} {c : Nat} {W : List Nat} (h : St w B g l Bw An nn cn n lv A c W) : leftW l g w = zbQ lv W:=by
 obtain ⟨_,_,c2⟩:=h.c0
 have hl : w.heap[l]? = some (.cells (ivs lv).toArray 3 (0,0)):=h.lev
 unfold leftW zbQ
 rw [c2,hl]
 simp only []
 rw [count_ivs]
def ClX (w : World) (n : Nat) (N : List Nd) (en : Ending) (w' : World) : Prop:=(∃ l d,en = .returned (.tuple #[.slice (some ⟨l,0,none⟩) n n,.bool true]) ∧ levS N = some d ∧ d.length = n ∧ Is w' (some ⟨l,0,none⟩) n (d.map fun x : Nat => (x : Int)) ∧ Below w.heap.size w w') ∨ (en = .returned (.tuple #[.slice none 0 0,.bool false]) ∧ levS N = none ∧ Below w.heap.size w w')
set_option maxHeartbeats 4000000 in
theorem climb_as {An : Option Addr} {nn cn : Nat} {N : List Nd} {w : World} (hN : Ns w An nn N) (hn : nn ≤ 100000) (hf : N.all (zaf nn) = true) :
  Calls Try.prog 70 #[.slice An nn cn] w (ClX w nn N):=by
 have HN:=Lib.hid hN
 have HF:=Lib.hid hf
 have HLN:=Lib.hid hN.1
 clear hN hf
 go_enter Try.func70,Try.ntmps70
 go_wp2_with fail
 obtain ⟨w0,e_w0,z0,b0⟩:=zmB w [.int .i64 (-2)] 3
 rw [e_w0]
 clear e_w0
 refine (repeat_as nn hn z0).mono ?_
 rintro en w1 ⟨l,rfl,hl,ho,b1⟩
 have B1:=Below.step b0 b1
 have hl1:=Own.lt ho
 go_upto_region 2 with fail
 obtain ⟨w2,e_w2⟩ : ∃ w',w1.alloc (.cells #[.slice An nn cn,.slice (some ⟨l,0,none⟩) nn nn,.slice none 0 0] 130) = w':=⟨_,rfl⟩
 have b2 : Below w1.heap.size w1 w2:=e_w2 ▸ zaa _ _
 have V2 : Own w2 w1.heap.size 130 [.slice An nn cn,.slice (some ⟨l,0,none⟩) nn nn,.slice none 0 0]:=e_w2 ▸ Own.made w1 130 [.slice An nn cn,.slice (some ⟨l,0,none⟩) nn nn,.slice none 0 0]
 have hz2 : w2.heap.size = w1.heap.size + 1:=by rw [← e_w2]; simp
 rw [e_w2]
 clear e_w2
 obtain ⟨g,hg⟩ : ∃ g,w1.heap.size = g:=⟨_,rfl⟩
 have H1 : w.heap.size ≤ l:=Nat.le_trans b0.size hl
 have hwg : w.heap.size ≤ g:=hg ▸ B1.size
 have BW:=Below.step B1 b2
 have S2 : St w2 w.heap.size g l (g + 1) An nn cn nn (List.replicate nn (-2)) none 0 []:=⟨hg ▸ V2,ho.below b2 hl1,World.ownsRow_nil w2 _ _ _,hwg,H1,by omega,by omega,by omega,by omega,by simp⟩
 have C2 : Climb N (List.replicate nn (-2)) []:=by rw [← HLN.out]; exact Climb.start N
 rw [hg]
 clear b0 b1 B1 b2 V2 ho hl hl1 hz2 hg z0
 go_wp2_with fail
 go_loopw [14] (fun i wr => ∃ j : Nat,j ≤ nn ∧ i = .int .i64 j ∧ ∃ (lv : List Int) (A : Option Addr) (c : Nat),St wr w.heap.size g l (g + 1) An nn cn nn lv A c [] ∧ Climb N lv [] ∧ (∀ i < j,lv[i]? ≠ some (-2)) ∧ zbQ lv [] ≤ 2 * nn ∧ Below w.heap.size w wr) (fun i _ => nn - (intOf i).toNat)
 case atStart => exact ⟨0,Nat.zero_le _,rfl,_,_,_,S2,C2,fun i hi => absurd hi (by omega),by unfold zbQ; simp,BW⟩
 clear S2 C2 BW
 obtain ⟨j,hj,rfl,lv,A,c,S,C,hd,hlc,BW⟩:=hrel
 have HC:=Lib.hid C
 have HD:=Lib.hid hd
 clear C hd
 by_cases hlt : j < nn
 ·obtain ⟨_,v1,v2⟩:=S.c0
  obtain ⟨y,hy⟩:=zat S.ln hlt
  have cl:=(S.lev.cell j).trans (zbU hy)
  have hjn : ((j : Nat) : Int) < (nn : Int):=by omega
  have key : ∀ (wr : World) (lv : List Int) (A : Option Addr) (c : Nat) (W : List Nat),St wr w.heap.size g l (g + 1) An nn cn nn lv A c W → Climb N lv W → (∀ i < j + 1,lv[i]? ≠ some (-2)) → zbQ lv W ≤ 2 * nn → Below w.heap.size w wr → True:=fun _ _ _ _ _ _ _ _ _ _ => trivial
  clear key
  by_cases h2 : y = -2
  ·have e2 : (y == -2) = true:=by simp [h2]
   subst h2
   go_wp2_with fail
   refine (await_as S j hlt (by simp)).mono ?_
   rintro en w4 ⟨⟨u,rfl⟩,A',c',S4,b4⟩
   have C4:=HC.out.await hy (fun V q e => by simp at e)
   have D4 : Hid (∀ i < j + 1,(lv.set j (-1))[i]? ≠ some (-2)):=Lib.hid fun i hi => by
    rw [zbv (List.getElem?_eq_some_iff.1 hy).1]
    split
    ·intro e; injection e with e; omega
    exact HD.out i (by omega)
   have L4:=zeO (W:=[]) hy
   have H0 : zbQ (lv.set j (-1)) ([] ++ [j]) ≤ 2 * nn:=by omega
   replace BW:=BW.trans b4
   clear S v1 v2 cl b4 L4
   go_wp2_with fail
   go_loopw [25] (fun _ wr => ∃ (lv : List Int) (A : Option Addr) (c : Nat) (W : List Nat),St wr w.heap.size g l (g + 1) An nn cn nn lv A c W ∧ Climb N lv W ∧ (∀ i < j + 1,lv[i]? ≠ some (-2)) ∧ zbQ lv W ≤ 2 * nn ∧ Below w.heap.size w wr) (fun _ wr => leftW l g wr)
   case atStart => exact ⟨_,_,_,_,S4,C4,D4.out,H0,BW⟩
   clear S4 C4 D4 BW HC HD hlc H0
   obtain ⟨lv,A,c,W,S,C,hd,hlc,BW⟩:=hrel
   have HC:=Lib.hid C
   have HD:=Lib.hid hd
   clear C hd
   obtain ⟨_,v1,v2⟩:=S.c0
   rcases snoc_cases W with rfl | ⟨V,q,rfl⟩
   ·go_wp2_with fail
    go_roundw
    case rel => exact ⟨j + 1,by omega,by go_num,_,_,_,S,HC.out,HD.out,hlc,BW⟩
    case measure => simp [intOf]; omega
   have H1 : V.length ≤ 500000:=by
    have : zbQ lv (V ++ [q]) = 2 * lv.count (-2) + (V ++ [q]).length:=rfl
    rw [List.length_append] at this
    omega
   have g0 : (0 : Int) < ((V ++ [q]).length : Int):=by rw [List.length_append,List.length_singleton]; omega
   have g1 : decide (0 < (V ++ [q]).length) = true:=by simp
   go_wp2_with fail
   refine (step_as S (HN.out.on BW) hn HC.out H1 HF.out).mono ?_
   rintro en w5 ⟨⟨b,rfl,hb0,hb1⟩,b5⟩
   cases b
   ·have h1:=hb0 rfl
    go_wp2_with fail
    refine bodyPost_ret (v:=.tuple #[.slice none 0 0,.bool false]) (by simp [results,Try.results70,go_sem]) rfl ?_
    exact .inr ⟨rfl,zel h1,BW.trans b5⟩
   obtain ⟨lv',A',c',W',S',C',hlt',hwl',hd'⟩:=hb1 rfl
   have ML : leftW l g w5 < leftW l g wr:=by rw [zdS S',zdS S]; exact hlt'
   go_wp2_with fail
   go_roundw
   case rel => exact ⟨_,_,_,_,S',C',fun i hi e => HD.out i hi (hd' i e),by omega,BW.trans b5⟩
   case measure => exact ML
  have e2 : (y == -2) = false:=by simp [h2]
  have D4 : Hid (∀ i < j + 1,lv[i]? ≠ some (-2)):=Lib.hid fun i hi => by
   by_cases e : i = j
   ·rw [e,hy]; intro e3; injection e3 with e3; exact h2 e3
   exact HD.out i (by omega)
  have C4:=HC.out
  have S4:=S
  have H0:=hlc
  go_wp2_with fail
  clear S v1 v2 cl
  go_loopw [25] (fun _ wr => ∃ (lv : List Int) (A : Option Addr) (c : Nat) (W : List Nat),St wr w.heap.size g l (g + 1) An nn cn nn lv A c W ∧ Climb N lv W ∧ (∀ i < j + 1,lv[i]? ≠ some (-2)) ∧ zbQ lv W ≤ 2 * nn ∧ Below w.heap.size w wr) (fun _ wr => leftW l g wr)
  case atStart => exact ⟨_,_,_,_,S4,C4,D4.out,H0,BW⟩
  clear S4 C4 D4 BW HC HD hlc H0
  obtain ⟨lv,A,c,W,S,C,hd,hlc,BW⟩:=hrel
  have HC:=Lib.hid C
  have HD:=Lib.hid hd
  clear C hd
  obtain ⟨_,v1,v2⟩:=S.c0
  rcases snoc_cases W with rfl | ⟨V,q,rfl⟩
  ·go_wp2_with fail
   go_roundw
   case rel => exact ⟨j + 1,by omega,by go_num,_,_,_,S,HC.out,HD.out,hlc,BW⟩
   case measure => simp [intOf]; omega
  have H1 : V.length ≤ 500000:=by
   have : zbQ lv (V ++ [q]) = 2 * lv.count (-2) + (V ++ [q]).length:=rfl
   rw [List.length_append] at this
   omega
  have g0 : (0 : Int) < ((V ++ [q]).length : Int):=by rw [List.length_append,List.length_singleton]; omega
  have g1 : decide (0 < (V ++ [q]).length) = true:=by simp
  go_wp2_with fail
  refine (step_as S (HN.out.on BW) hn HC.out H1 HF.out).mono ?_
  rintro en w5 ⟨⟨b,rfl,hb0,hb1⟩,b5⟩
  cases b
  ·have h1:=hb0 rfl
   go_wp2_with fail
   refine bodyPost_ret (v:=.tuple #[.slice none 0 0,.bool false]) (by simp [results,Try.results70,go_sem]) rfl ?_
   exact .inr ⟨rfl,zel h1,BW.trans b5⟩
  obtain ⟨lv',A',c',W',S',C',hlt',hwl',hd'⟩:=hb1 rfl
  have ML : leftW l g w5 < leftW l g wr:=by rw [zdS S',zdS S]; exact hlt'
  go_wp2_with fail
  go_roundw
  case rel => exact ⟨_,_,_,_,S',C',fun i hi e => HD.out i hi (hd' i e),by omega,BW.trans b5⟩
  case measure => exact ML
 obtain rfl : j = nn:=by omega
 obtain ⟨hall,hpos⟩:=HC.out.all (fun i hi => HD.out i (by rw [HLN.out] at hi; exact hi))
 obtain ⟨_,v1,_⟩:=S.c0
 go_wp2_with fail
 refine bodyPost_ret (v:=.tuple #[.slice (some ⟨l,0,none⟩) j j,.bool true]) (by simp [results,Try.results70,go_sem]) rfl ?_
 refine .inl ⟨l,_,rfl,hall,by rw [List.length_map]; exact S.ln,?_,BW⟩
 have e : (lv.map Int.toNat).map (fun x : Nat => (x : Int)) = lv:=by
  rw [List.map_map]
  conv => rhs; rw [← List.map_id lv]
  refine List.map_congr_left fun x hx => ?_
  have:=hpos x hx
  simp only [Function.comp]
  show ((x.toNat : Nat) : Int) = x
  omega
 rw [e]
 refine ⟨S.ln,fun k x hx => ⟨l,0,rfl,S.lev.lt,?_⟩⟩
 rw [Nat.zero_add]
 exact (S.lev.cell k).trans (zbU hx)
structure Nt (w : World) (An : Option Addr) (nn cn : Nat) (Ai : Option Addr) (ni ci : Nat) (Ao : Option Addr) (no co : Nat) (N : List Nd) (I O : List Pt) : Prop where
  n : Ns w An nn N
  i : Ps w Ai ni I
  o : Ps w Ao no O
  si : Sw Ai ni ci
  so : Sw Ao no co
  hn : nn ≤ 100000
  hs : ni + no ≤ 1000
  hb : ∀ p ∈ I ++ O,p.bits.length ≤ 1000000
theorem Nt.on {w w' : World} {An Ai Ao : Option Addr} {nn cn ni ci no co : Nat} {N : List Nd} {I O : List Pt} (h : Nt w An nn cn Ai ni ci Ao no co N I O) (hb : Below w.heap.size w w') : Nt w' An nn cn Ai ni ci Ao no co N I O:=
 ⟨h.n.on hb,h.i.on hb,h.o.on hb,h.si,h.so,h.hn,h.hs,h.hb⟩
noncomputable def zaB (N : List Nd) (I O : List Pt) : Option (List Nat) × Int:=if zaU N I O ≠ 0 then (none,zaU N I O) else match levS N with | some d => (some d,0) | none => (none,9)
def ints (d : Option (List Nat)) : List Int:=(d.getD []).map fun x : Nat => (x : Int)
def LvX (w : World) (d : Option (List Nat)) (e : Int) (en : Ending) (w' : World) : Prop:=∃ A m c,en = .returned (.tuple #[.slice A m c,.int .i64 e]) ∧ Is w' A m (ints d) ∧ m ≤ c ∧ Below w.heap.size w w'
theorem wrong_form {N : List Nd} {I O : List Pt} (h : zaU N I O = 0) : N.all (zaf N.length) = true:=by
 unfold zaU at h
 split at h
 ·cases h
 split at h
 ·rename_i h2
  exact (Bool.and_eq_true_iff.1 h2).1
 cases h
end Go.Proofs.Ytcehklnonhalhaa
