/-
  What the proofs of OptTells need: Gn Gp Gq.
-/
import Derived.Test.YtcehklnonhalhaaSTGk
import Derived.Lib.SliceRun
set_option linter.unusedVariables false
namespace Go.Proofs.Ytcehklnonhalhaa
open Go.RowKit
set_option maxRecDepth 4000
instance : BEq Nd:=⟨za6⟩
instance : LawfulBEq Nd where
  eq_of_beq {a b} h:=by
    obtain ⟨a1,a2,a3,a4⟩:=a
    obtain ⟨b1,b2,b3,b4⟩:=b
    have : za6 _ _ = true:=h
    unfold za6 at this
    simp at this
    obtain ⟨rfl,rfl,rfl,rfl⟩:=this
    rfl
  rfl {a}:=zdv a
theorem zdh {α : Type} {L M : List α} {j : Nat} {x : α} (h : L.take j = M.take j) (hx : L[j]? = some x) (hy : M[j]? = some x) : L.take (j + 1) = M.take (j + 1):=by
 rw [List.take_add_one,List.take_add_one,h,hx,hy]
theorem ze5 {α : Type} [BEq α] [LawfulBEq α] {L M : List α} {j : Nat} {x y : α} (hx : L[j]? = some x) (hy : M[j]? = some y) (h : ¬ x = y) : (L == M) = false:=by
 rw [beq_eq_false_iff_ne]
 rintro rfl
 rw [hx] at hy
 injection hy with hy
 exact h hy
theorem zdP {α : Type} [BEq α] [LawfulBEq α] {L M : List α} {n : Nat} (hl : L.length = n) (hm : M.length = n) (h : L.take n = M.take n) : (L == M) = true:=by
 rw [List.take_of_length_le (by omega),List.take_of_length_le (by omega)] at h
 rw [h]
 exact beq_self_eq_true _
theorem len_no {α : Type} [BEq α] [LawfulBEq α] {L M : List α} (h : ¬ L.length = M.length) : (L == M) = false:=by
 rw [beq_eq_false_iff_ne]
 rintro rfl
 exact h rfl
set_option maxHeartbeats 1000000 in
theorem equalI_as {A C : Option Addr} {n c k d : Nat} {L M : List Int} {w : World} (hL : Is w A n L) (hM : Is w C k M) (hn : n ≤ 1000000) (v : Bool) (hv : (L == M) = v) :
  Calls Try.prog 110 #[.slice A n c,.slice C k d] w fun e w' => e = .returned (.bool v) ∧ Below w.heap.size w w':=by
 have HV:=Lib.hid hv
 have HL:=Lib.hid hL.1
 have HM:=Lib.hid hM.1
 clear hv
 go_enter Try.func110,Try.ntmps110
 by_cases e : n = k
 case neg =>
  have e0 : ¬ k = n:=fun h => e h.symm
  have e1 : (((n : Nat) : Int) != (k : Int)) = true:=by simp; omega
  have HE:=Lib.hid (len_no (L:=L) (M:=M) (by rw [HL.out,HM.out]; exact e))
  go_wp2_with fail
  go_ret
  exact ⟨zad (by rw [← HV.out,HE.out]),Below.refl _ _⟩
 subst e
 have e1 : (((n : Nat) : Int) != (n : Int)) = false:=by simp
 go_wp2_with fail
 go_loopw [13] (fun i wr => ∃ j : Nat,j ≤ n ∧ i = .int .i64 j ∧ L.take j = M.take j ∧ Below w.heap.size w wr) (fun i _ => n - (intOf i).toNat)
 case atStart => exact ⟨0,Nat.zero_le _,rfl,rfl,Below.refl _ _⟩
 obtain ⟨j,hj,rfl,hp,BW⟩:=hrel
 have HP:=Lib.hid hp
 clear hp
 by_cases hlt : j < n
 ·obtain ⟨b0,off,x,eA,HX,cx⟩:=(hL.on BW).at hlt
  obtain ⟨b1,off1,y,eC,HY,cy⟩:=(hM.on BW).at hlt
  subst eA
  have hjn : (j : Int) < (n : Int):=by omega
  have hj0 : (0 : Int) ≤ (j : Int):=by omega
  try subst eC
  by_cases e : x = y
  ·subst e
   have HT:=Lib.hid (zdh HP.out HX.out HY.out)
   go_wp2_with fail
   go_region
   go_wp2_with fail
   go_roundw
   case rel => exact ⟨j + 1,by omega,by go_num,HT.out,BW.drew⟩
   case measure => simp [intOf]; omega
  have HE:=Lib.hid (ze5 HX.out HY.out e)
  have e1 : (x != y) = true:=by simp [e]
  go_wp2_with fail
  go_region
  go_wp2_with fail
  go_ret
  exact ⟨zad (by rw [← HV.out,HE.out]),BW.drew⟩
 obtain rfl : j = n:=by omega
 have HE:=Lib.hid (zdP HL.out HM.out HP.out)
 go_wp2_with fail
 go_ret
 exact ⟨zad (by rw [← HV.out,HE.out]),BW⟩
set_option maxHeartbeats 1000000 in
theorem zes {A C : Option Addr} {n c k d : Nat} {L M : List Nd} {w : World} (hL : Ns w A n L) (hM : Ns w C k M) (hn : n ≤ 1000000) (v : Bool) (hv : (L == M) = v) :
  Calls Try.prog 86 #[.slice A n c,.slice C k d] w fun e w' => e = .returned (.bool v) ∧ Below w.heap.size w w':=by
 have HV:=Lib.hid hv
 have HL:=Lib.hid hL.1
 have HM:=Lib.hid hM.1
 clear hv
 go_enter Try.func86,Try.ntmps86
 by_cases e : n = k
 case neg =>
  have e0 : ¬ k = n:=fun h => e h.symm
  have e1 : (((n : Nat) : Int) != (k : Int)) = true:=by simp; omega
  have HE:=Lib.hid (len_no (L:=L) (M:=M) (by rw [HL.out,HM.out]; exact e))
  go_wp2_with fail
  go_ret
  exact ⟨zad (by rw [← HV.out,HE.out]),Below.refl _ _⟩
 subst e
 have e1 : (((n : Nat) : Int) != (n : Int)) = false:=by simp
 go_wp2_with fail
 go_loopw [13] (fun i wr => ∃ j : Nat,j ≤ n ∧ i = .int .i64 j ∧ L.take j = M.take j ∧ Below w.heap.size w wr) (fun i _ => n - (intOf i).toNat)
 case atStart => exact ⟨0,Nat.zero_le _,rfl,rfl,Below.refl _ _⟩
 obtain ⟨j,hj,rfl,hp,BW⟩:=hrel
 have HP:=Lib.hid hp
 clear hp
 by_cases hlt : j < n
 ·obtain ⟨b0,off,x1,x2,x3,x4,eA,HX,n1,n2,n3,n4⟩:=(hL.on BW).at hlt
  obtain ⟨b1,off1,y1,y2,y3,y4,eC,HY,m1,m2,m3,m4⟩:=(hM.on BW).at hlt
  subst eA
  have hjn : (j : Int) < (n : Int):=by omega
  have hj0 : (0 : Int) ≤ (j : Int):=by omega
  try subst eC
  by_cases e : (⟨x1,x2,x3,x4⟩ : Nd) = ⟨y1,y2,y3,y4⟩
  ·injection e with e1 e2 e3 e4
   subst e1 e2 e3 e4
   have HT:=Lib.hid (zdh HP.out HX.out HY.out)
   go_wp2_with fail
   go_region
   go_wp2_with fail
   go_roundw
   case rel => exact ⟨j + 1,by omega,by go_num,HT.out,BW.drew⟩
   case measure => simp [intOf]; omega
  have HE:=Lib.hid (ze5 HX.out HY.out e)
  by_cases h1 : x1 = y1
  case neg =>
   go_wp2_with fail
   go_region
   go_wp2_with fail
   go_ret
   exact ⟨zad (by rw [← HV.out,HE.out]),BW.drew⟩
  subst h1
  by_cases h2 : x2 = y2
  case neg =>
   go_wp2_with fail
   go_region
   go_wp2_with fail
   go_ret
   exact ⟨zad (by rw [← HV.out,HE.out]),BW.drew⟩
  subst h2
  by_cases h3 : x3 = y3
  case neg =>
   go_wp2_with fail
   go_region
   go_wp2_with fail
   go_ret
   exact ⟨zad (by rw [← HV.out,HE.out]),BW.drew⟩
  subst h3
  by_cases h4 : x4 = y4
  case neg =>
   go_wp2_with fail
   go_region
   go_wp2_with fail
   go_ret
   exact ⟨zad (by rw [← HV.out,HE.out]),BW.drew⟩
  subst h4
  exact absurd rfl e
 obtain rfl : j = n:=by omega
 have HE:=Lib.hid (zdP HL.out HM.out HP.out)
 go_wp2_with fail
 go_ret
 exact ⟨zad (by rw [← HV.out,HE.out]),BW⟩
set_option maxRecDepth 4000
def zdd (p q : Pt) : Bool:=(p.name.toList == q.name.toList) && (p.bits == q.bits)
def zcQ (L M : List Pt) (i : Nat) : Bool:=match L[i]?,M[i]? with
 | some p,some q => zdd p q
 | _,_ => false
def zcu (L M : List Pt) : Bool:=(L.length == M.length) && (List.range L.length).all (zcQ L M)
theorem sameL_no {L M : List Pt} (h : ¬ L.length = M.length) : zcu L M = false:=by unfold zcu; simp [h]
theorem zeZ {L M : List Pt} {j : Nat} {p q : Pt} (hp : L[j]? = some p) (hq : M[j]? = some q) (h : zdd p q = false) : zcu L M = false:=by
 unfold zcu
 rw [Bool.and_eq_false_iff]
 right
 rw [List.all_eq_false]
 exact ⟨j,List.mem_range.2 (List.getElem?_eq_some_iff.1 hp).1,by unfold zcQ; rw [hp,hq]; simpa using h⟩
theorem sameL_end {L M : List Pt} {n : Nat} (hl : L.length = n) (hm : M.length = n) (h : (List.range n).all (zcQ L M) = true) : zcu L M = true:=by
 unfold zcu
 rw [hl,hm,h]
 simp
theorem zd4 {L M : List Pt} {j : Nat} {p q : Pt} (hp : L[j]? = some p) (hq : M[j]? = some q) (h : zdd p q = true) (ha : (List.range j).all (zcQ L M) = true) : (List.range (j + 1)).all (zcQ L M) = true:=by
 rw [List.range_succ,List.all_append,ha]
 unfold zcQ
 simp [hp,hq,h]
set_option maxHeartbeats 1000000 in
theorem zd3 {A C : Option Addr} {m c k d : Nat} {bs bt : List Int} {nm nq : ByteArray} {w : World} (hA : Is w A m bs) (hC : Is w C k bt) (hm : m ≤ 1000000) (v : Bool) (hv : zdd ⟨nm,bs⟩ ⟨nq,bt⟩ = v) :
  Calls Try.prog 88 #[.agg #[.string nm,.slice A m c],.agg #[.string nq,.slice C k d]] w fun e w' => e = .returned (.bool v) ∧ Below w.heap.size w w':=by
 have HV:=Lib.hid hv
 clear hv
 go_enter Try.func88,Try.ntmps88
 go_upto_region 1 with fail
 obtain ⟨w1,e_w1,z0,b1⟩:=zmB w [.string nm,.slice A m c] 41
 have H0 : w1.heap.size = w.heap.size + 1:=e_w1 ▸ zal w _ rfl
 rw [e_w1]
 clear e_w1
 have H0 : w1.heap.size = w.heap.size + 1:=H0
 obtain ⟨w2,e_w2⟩ : ∃ w',w1.alloc (.cells #[.string nq,.slice C k d] 41) = w':=⟨_,rfl⟩
 have z1 : Bx w2 (w.heap.size + 1) [.string nq,.slice C k d]:=e_w2 ▸ Bx.made_k w1 H0 #[.string nq,.slice C k d] 41
 have b2 : Below w1.heap.size w1 w2:=e_w2 ▸ zaa _ _
 rw [e_w2]
 clear e_w2
 replace z0:=z0.on b2
 have BW:=Below.step b1 b2
 replace hA:=hA.on BW
 replace hC:=hC.on BW
 have z0c0:=z0.2 0 _ rfl
 have z0c1:=z0.2 1 _ rfl
 have z1c0:=z1.2 0 _ rfl
 have z1c1:=z1.2 1 _ rfl
 obtain ⟨u,hu⟩ : ∃ u,(nm.toList == nq.toList) = u:=⟨_,rfl⟩
 cases u
 ·have HE : Hid (v = false):=Lib.hid (by rw [← HV.out]; unfold zdd; simp only [hu,Bool.false_and])
  go_wp2_with fail
  go_ret
  exact ⟨zad HE.out.symm,BW⟩
 have HE : Hid ((bs == bt) = v):=Lib.hid (by rw [← HV.out]; unfold zdd; simp only [hu,Bool.true_and])
 go_wp2_with fail
 refine (equalI_as hA hC hm v HE.out).mono ?_
 rintro e w9 ⟨rfl,b⟩
 replace BW:=Below.step BW b
 go_wp2_with fail
 go_ret
 exact ⟨rfl,BW⟩
set_option maxHeartbeats 2000000 in
theorem zet {A C : Option Addr} {n c k d : Nat} {L M : List Pt} {w : World} (hL : Ps w A n L) (hM : Ps w C k M) (hn : n ≤ 1000000) (hb : ∀ p ∈ L,p.bits.length ≤ 1000000) (v : Bool) (hv : zcu L M = v) :
  Calls Try.prog 87 #[.slice A n c,.slice C k d,.func (.func 88) #[] #[]] w fun e w' => e = .returned (.bool v) ∧ Below w.heap.size w w':=by
 have HV:=Lib.hid hv
 have HB:=Lib.hid hb
 have HL:=Lib.hid hL.1
 have HM:=Lib.hid hM.1
 clear hv hb
 go_enter Try.func87,Try.ntmps87
 by_cases e : n = k
 case neg =>
  have e0 : ¬ k = n:=fun h => e h.symm
  have e1 : (((n : Nat) : Int) != (k : Int)) = true:=by simp; omega
  have HE:=Lib.hid (sameL_no (L:=L) (M:=M) (by rw [HL.out,HM.out]; exact e))
  go_wp2_with fail
  go_ret
  exact ⟨zad (by rw [← HV.out,HE.out]),Below.refl _ _⟩
 subst e
 have e1 : (((n : Nat) : Int) != (n : Int)) = false:=by simp
 go_wp2_with fail
 go_loopw [17] (fun i wr => ∃ j : Nat,j ≤ n ∧ i = .int .i64 j ∧ (List.range j).all (zcQ L M) = true ∧ Below w.heap.size w wr) (fun i _ => n - (intOf i).toNat)
 case atStart => exact ⟨0,Nat.zero_le _,rfl,rfl,Below.refl _ _⟩
 obtain ⟨j,hj,rfl,hp,BW⟩:=hrel
 have HP:=Lib.hid hp
 clear hp
 by_cases hlt : j < n
 ·obtain ⟨b0,off,nm,A',m,c',bs,eA,hbw,HX,k1,k2,hi⟩:=(hL.on BW).at0 hlt
  obtain ⟨b1,off1,nq,C',m1,d',bt,eC,hbw1,HY,l1,l2,hi1⟩:=(hM.on BW).at0 hlt
  subst eA
  have hjn : (j : Int) < (n : Int):=by omega
  have hj0 : (0 : Int) ≤ (j : Int):=by omega
  try subst eC
  have hm : m ≤ 1000000:=by rw [← hi.1]; exact HB.out _ (List.mem_of_getElem? HX.out)
  obtain ⟨u,hu⟩ : ∃ u,zdd ⟨nm,bs⟩ ⟨nq,bt⟩ = u:=⟨_,rfl⟩
  have HU:=Lib.hid hu
  clear hu
  go_upto_region 6 with fail
  obtain ⟨w2,e_w2,z0,b2⟩:=zmB wr [.string nm,.slice A' m c'] 41
  rw [e_w2]
  clear e_w2
  replace l1:=(b2.cell (p:=⟨b1,off1 + j * 2,none⟩) hbw1).trans l1
  replace l2:=(b2.cell (p:=⟨b1,off1 + j * 2 + 1,none⟩) hbw1).trans l2
  go_upto_region 7 with fail
  obtain ⟨w3,e_w3,z1,b3⟩:=zmB w2 [.string nq,.slice C' m1 d'] 41
  rw [e_w3]
  clear e_w3
  replace z0:=z0.on b3
  have z0c0:=z0.2 0 _ rfl
  have z0c1:=z0.2 1 _ rfl
  have z1c0:=z1.2 0 _ rfl
  have z1c1:=z1.2 1 _ rfl
  have B3:=Below.step (Below.step BW b2) b3
  cases u
  ·have HE:=Lib.hid (zeZ HX.out HY.out HU.out)
   go_wp2_with (go_at_call 88; refine (zd3 ((hi.on b2).on b3) ((hi1.on b2).on b3) hm _ HU.out).mono ?_; rintro e w4 ⟨rfl,b4⟩; have B4:=Below.step B3 b4)
   go_ret
   exact ⟨zad (by rw [← HV.out,HE.out]),B4⟩
  have HT:=Lib.hid (zd4 HX.out HY.out HU.out HP.out)
  go_wp2_with (go_at_call 88; refine (zd3 ((hi.on b2).on b3) ((hi1.on b2).on b3) hm _ HU.out).mono ?_; rintro e w4 ⟨rfl,b4⟩; have B4:=Below.step B3 b4)
  go_roundw
  case rel => exact ⟨j + 1,by omega,by go_num,HT.out,B4⟩
  case measure => simp [intOf]; omega
 obtain rfl : j = n:=by omega
 have HE:=Lib.hid (sameL_end HL.out HM.out HP.out)
 go_wp2_with fail
 go_ret
 exact ⟨zad (by rw [← HV.out,HE.out]),BW⟩
def zct (N N' : List Nd) (I I' O O' : List Pt) : Bool:=(N == N') && (zcu I I' && zcu O O')
set_option maxHeartbeats 2000000 in
theorem same_as {An Ai Ao Bn Bi Bo : Option Addr} {nn cn ni ci no co mn dn mi di mo do' : Nat} {N N' : List Nd} {I I' O O' : List Pt} {w : World} (h : Nt w An nn cn Ai ni ci Ao no co N I O) (h' : Nt w Bn mn dn Bi mi di Bo mo do' N' I' O') (v : Bool) (hv : zct N N' I I' O O' = v) :
  Calls Try.prog 62 #[.agg #[.slice An nn cn,.slice Ai ni ci,.slice Ao no co],.agg #[.slice Bn mn dn,.slice Bi mi di,.slice Bo mo do']] w fun e w' => e = .returned (.bool v) ∧ Below w.heap.size w w':=by
 have HV:=Lib.hid hv
 clear hv
 go_enter Try.func62,Try.ntmps62
 go_upto_region 1 with fail
 obtain ⟨w1,e_w1,z0,b1⟩:=zmB w [.slice An nn cn,.slice Ai ni ci,.slice Ao no co] 25
 have hs1 : w1.heap.size = w.heap.size + 1:=e_w1 ▸ zal w _ rfl
 rw [e_w1]
 clear e_w1
 obtain ⟨w2,e_w2⟩ : ∃ w',w1.alloc (.cells #[.slice Bn mn dn,.slice Bi mi di,.slice Bo mo do'] 25) = w':=⟨_,rfl⟩
 have z1 : Bx w2 (w.heap.size + 1) [.slice Bn mn dn,.slice Bi mi di,.slice Bo mo do']:=e_w2 ▸ Bx.made_k w1 hs1 #[.slice Bn mn dn,.slice Bi mi di,.slice Bo mo do'] 25
 have b2 : Below w1.heap.size w1 w2:=e_w2 ▸ zaa _ _
 rw [e_w2]
 clear e_w2
 replace z0:=z0.on b2
 have BW:=Below.step b1 b2
 replace h:=h.on BW
 replace h':=h'.on BW
 have H4 : nn ≤ 1000000:=by have:=h.hn; omega
 have hn2 : ni ≤ 1000000:=by have:=h.hs; omega
 have hn3 : no ≤ 1000000:=by have:=h.hs; omega
 have HB2 : Hid (∀ p ∈ I,p.bits.length ≤ 1000000):=Lib.hid fun p hp => h.hb p (List.mem_append_left _ hp)
 have HB3 : Hid (∀ p ∈ O,p.bits.length ≤ 1000000):=Lib.hid fun p hp => h.hb p (List.mem_append_right _ hp)
 have z0c0:=z0.2 0 _ rfl
 have z1c0:=z1.2 0 _ rfl
 obtain ⟨u1,hu1⟩ : ∃ u,(N == N') = u:=⟨_,rfl⟩
 obtain ⟨u2,hu2⟩ : ∃ u,zcu I I' = u:=⟨_,rfl⟩
 obtain ⟨u3,hu3⟩ : ∃ u,zcu O O' = u:=⟨_,rfl⟩
 have H1:=Lib.hid hu1
 have H2:=Lib.hid hu2
 have H3:=Lib.hid hu3
 clear hu1 hu2 hu3
 cases u1
 ·have HE : Hid (v = false):=Lib.hid (by rw [← HV.out]; unfold zct; rw [H1.out]; rfl)
  go_wp2_with (go_at_call 86; refine (zes h.n h'.n H4 false H1.out).mono ?_; rintro e w3 ⟨rfl,b3⟩; have B3:=Below.step BW b3; obtain ⟨z0w30,z0w31,z0w32⟩:=(z0.on b3).zb3; obtain ⟨z1w30,z1w31,z1w32⟩:=(z1.on b3).zb3)
  go_ret
  exact ⟨zad HE.out.symm,B3⟩
 cases u2
 ·have HE : Hid (v = false):=Lib.hid (by rw [← HV.out]; unfold zct; rw [H1.out,H2.out]; rfl)
  go_wp2_with (first | (go_at_call 86; refine (zes h.n h'.n H4 true H1.out).mono ?_; rintro e w3 ⟨rfl,b3⟩; have B3:=Below.step BW b3; obtain ⟨z0w30,z0w31,z0w32⟩:=(z0.on b3).zb3; obtain ⟨z1w30,z1w31,z1w32⟩:=(z1.on b3).zb3) | (go_at_call 87; refine (zet (h.i.on b3) (h'.i.on b3) hn2 HB2.out false H2.out).mono ?_; rintro e w4 ⟨rfl,b4⟩; have H0:=Below.step b3 b4; have B4:=Below.step BW H0; obtain ⟨z0w40,z0w41,z0w42⟩:=(z0.on H0).zb3; obtain ⟨z1w40,z1w41,z1w42⟩:=(z1.on H0).zb3))
  go_ret
  exact ⟨zad HE.out.symm,B4⟩
 have HE : Hid (v = u3):=Lib.hid (by rw [← HV.out]; unfold zct; rw [H1.out,H2.out,H3.out]; rfl)
 go_wp2_with (first | (go_at_call 86; refine (zes h.n h'.n H4 true H1.out).mono ?_; rintro e w3 ⟨rfl,b3⟩; have B3:=Below.step BW b3; obtain ⟨z0w30,z0w31,z0w32⟩:=(z0.on b3).zb3; obtain ⟨z1w30,z1w31,z1w32⟩:=(z1.on b3).zb3) | (go_at_call 87; refine (zet (h.o.on H0) (h'.o.on H0) hn3 HB3.out u3 H3.out).mono ?_; rintro e w5 ⟨rfl,b5⟩; have B5:=Below.step B4 b5) | (go_at_call 87; refine (zet (h.i.on b3) (h'.i.on b3) hn2 HB2.out true H2.out).mono ?_; rintro e w4 ⟨rfl,b4⟩; have H0:=Below.step b3 b4; have B4:=Below.step BW H0; obtain ⟨z0w40,z0w41,z0w42⟩:=(z0.on H0).zb3; obtain ⟨z1w40,z1w41,z1w42⟩:=(z1.on H0).zb3))
 go_ret
 exact ⟨zad HE.out.symm,B5⟩
set_option maxRecDepth 4000
theorem zeH (w : World) : Calls Try.prog 95 #[.slice none 0 0] w fun en w' => en = .returned (.slice none 0 0) ∧ w = w':=by
 have q : ∀ w : World,(binOp .eql 39 (.slice none 0 0) (.slice none 0 0)).run Try.prog w = .ok (.bool true) w:=fun w => Lib.run_eql_slice_nil w _ _ _ _ _ _ _ Try.underlying39
 go_enter Try.func95,Try.ntmps95
 go_wp2_with fail
 go_ret
 exact ⟨rfl,rfl⟩
set_option maxHeartbeats 1000000 in
theorem cloneI_as {A : Option Addr} {n c : Nat} {L : List Int} {w : World} (h : Is w A n L) (sw : Sw A n c) (hn : n ≤ 100000) :
  Calls Try.prog 95 #[.slice A n c] w fun en w' => ∃ v,en = .returned v ∧ w'.ownsRow w.heap.size 3 1 v n (L.flatMap inC) ∧ Below w.heap.size w w':=by
 cases A with
 | none =>
  obtain ⟨rfl,rfl⟩:=sw.none_ rfl
  obtain rfl : L = []:=List.eq_nil_of_length_eq_zero h.1
  refine (zeH w).mono ?_
  rintro en w' ⟨rfl,rfl⟩
  exact ⟨_,rfl,World.ownsRow_nil w _ _ _,Below.refl _ _⟩
 | some ad =>
  have q : ∀ w : World,(binOp .eql 39 (.slice (some ad) n c) (.slice none 0 0)).run Try.prog w = .ok (.bool false) w:=fun w => Lib.run_eql_slice_nil w _ _ _ _ _ _ _ Try.underlying39
  go_enter Try.func95,Try.ntmps95
  go_upto_region 3 with fail
  have hrow : (w.alloc (.cells #[] 3)).ownsRow w.heap.size 3 1 (.slice (some ⟨w.heap.size,0,none⟩) 0 0) 0 []:=World.ownsRow_lit w #[] 0 (Nat.le_refl _) (by unfold maxLen; omega) rfl
  have b1 : Below w.heap.size w (w.alloc (.cells #[] 3)):=zaa _ _
  have h1:=h.on b1
  go_wp2_with (at_builtin; refine zax (A:=some ad) (m:=n) (c:=c) rfl _ _ 39 rfl zbI (by omega) (by omega) w.heap.size _ _ _ rfl hrow (L.flatMap inC) rfl sw.none_ (by rw [zas inC 1 zaC,h.1]) h1.cells (one_in _) (by omega) b1.size ?_; intro v2 w2 hrow2 hg; have b2:=za5 hrow b1 (Nat.le_refl _) hg)
  go_ret
  exact ⟨_,rfl,by simpa using hrow2,b2⟩
theorem zeG (w : World) : Calls Try.prog 67 #[.slice none 0 0] w fun en w' => en = .returned (.slice none 0 0) ∧ w = w':=by
 have q : ∀ w : World,(binOp .eql 22 (.slice none 0 0) (.slice none 0 0)).run Try.prog w = .ok (.bool true) w:=fun w => Lib.run_eql_slice_nil w _ _ _ _ _ _ _ Try.underlying22
 go_enter Try.func67,Try.ntmps67
 go_wp2_with fail
 go_ret
 exact ⟨rfl,rfl⟩
set_option maxHeartbeats 1000000 in
theorem zev {A : Option Addr} {n c : Nat} {L : List Nd} {w : World} (h : Ns w A n L) (sw : Sw A n c) (hn : n ≤ 100000) :
  Calls Try.prog 67 #[.slice A n c] w fun en w' => ∃ v,en = .returned v ∧ w'.ownsRow w.heap.size 43 4 v n (L.flatMap ndC) ∧ Below w.heap.size w w':=by
 cases A with
 | none =>
  obtain ⟨rfl,rfl⟩:=sw.none_ rfl
  obtain rfl : L = []:=List.eq_nil_of_length_eq_zero h.1
  refine (zeG w).mono ?_
  rintro en w' ⟨rfl,rfl⟩
  exact ⟨_,rfl,World.ownsRow_nil w _ _ _,Below.refl _ _⟩
 | some ad =>
  have q : ∀ w : World,(binOp .eql 22 (.slice (some ad) n c) (.slice none 0 0)).run Try.prog w = .ok (.bool false) w:=fun w => Lib.run_eql_slice_nil w _ _ _ _ _ _ _ Try.underlying22
  go_enter Try.func67,Try.ntmps67
  go_upto_region 3 with fail
  have hrow : (w.alloc (.cells #[] 43)).ownsRow w.heap.size 43 4 (.slice (some ⟨w.heap.size,0,none⟩) 0 0) 0 []:=World.ownsRow_lit w #[] 0 (Nat.le_refl _) (by unfold maxLen; omega) rfl
  have b1 : Below w.heap.size w (w.alloc (.cells #[] 43)):=zaa _ _
  have h1:=h.on b1
  go_wp2_with (at_builtin; refine zax (A:=some ad) (m:=n) (c:=c) rfl _ _ 22 rfl zbX (by omega) (by omega) w.heap.size _ _ _ rfl hrow (L.flatMap ndC) rfl sw.none_ (by rw [zas ndC 4 za1,h.1]) h1.cells (zdG _) (by omega) b1.size ?_; intro v2 w2 hrow2 hg; have b2:=za5 hrow b1 (Nat.le_refl _) hg)
  go_ret
  exact ⟨_,rfl,by simpa using hrow2,b2⟩
theorem zeF (w : World) : Calls Try.prog 94 #[.slice none 0 0] w fun en w' => en = .returned (.slice none 0 0) ∧ w = w':=by
 have q : ∀ w : World,(binOp .eql 23 (.slice none 0 0) (.slice none 0 0)).run Try.prog w = .ok (.bool true) w:=fun w => Lib.run_eql_slice_nil w _ _ _ _ _ _ _ Try.underlying23
 go_enter Try.func94,Try.ntmps94
 go_wp2_with fail
 go_ret
 exact ⟨rfl,rfl⟩
set_option maxHeartbeats 1000000 in
theorem cloneP_as {A : Option Addr} {n c : Nat} {L : List Rp} {w : World} (h : PsR w A n L) (sw : Sw A n c) (hn : n ≤ 100000) :
  Calls Try.prog 94 #[.slice A n c] w fun en w' => ∃ v,en = .returned v ∧ w'.ownsRow w.heap.size 41 2 v n (L.flatMap ptC) ∧ Below w.heap.size w w':=by
 cases A with
 | none =>
  obtain ⟨rfl,rfl⟩:=sw.none_ rfl
  obtain rfl : L = []:=List.eq_nil_of_length_eq_zero h.1
  refine (zeF w).mono ?_
  rintro en w' ⟨rfl,rfl⟩
  exact ⟨_,rfl,World.ownsRow_nil w _ _ _,Below.refl _ _⟩
 | some ad =>
  have q : ∀ w : World,(binOp .eql 23 (.slice (some ad) n c) (.slice none 0 0)).run Try.prog w = .ok (.bool false) w:=fun w => Lib.run_eql_slice_nil w _ _ _ _ _ _ _ Try.underlying23
  go_enter Try.func94,Try.ntmps94
  go_upto_region 3 with fail
  have hrow : (w.alloc (.cells #[] 41)).ownsRow w.heap.size 41 2 (.slice (some ⟨w.heap.size,0,none⟩) 0 0) 0 []:=World.ownsRow_lit w #[] 0 (Nat.le_refl _) (by unfold maxLen; omega) rfl
  have b1 : Below w.heap.size w (w.alloc (.cells #[] 41)):=zaa _ _
  have h1:=h.on b1
  go_wp2_with (at_builtin; refine zax (A:=some ad) (m:=n) (c:=c) rfl _ _ 23 rfl zbW (by omega) (by omega) w.heap.size _ _ _ rfl hrow (L.flatMap ptC) rfl sw.none_ (by rw [zas ptC 2 zaL,h.1]) h1.cells (zef _) (by omega) b1.size ?_; intro v2 w2 hrow2 hg; have b2:=za5 hrow b1 (Nat.le_refl _) hg)
  go_ret
  exact ⟨_,rfl,by simpa using hrow2,b2⟩
end Go.Proofs.Ytcehklnonhalhaa
