/-
  What the proofs of OptTells need: Gt Gu Gv Gw.
-/
import Derived.Test.YtcehklnonhalhaaSTGr
set_option linter.unusedVariables false
namespace Go.Proofs.Ytcehklnonhalhaa
open Go.RowKit
set_option maxRecDepth 4000
set_option maxHeartbeats 1000000 in
theorem rints_as {A C : Option Addr} {n c k d : Nat} {L M : List Int} {w : World} (hL : Is w A n L) (hM : Is w C k M) (hn : n ≤ 1000000) (v : Bool) (hv : (L == M) = v) :
  Calls Try.prog 33 #[.slice A n c,.slice C k d] w fun e w' => e = .returned (.bool v) ∧ Below w.heap.size w w':=by
 have HV:=Lib.hid hv
 have HL:=Lib.hid hL.1
 have HM:=Lib.hid hM.1
 clear hv
 go_enter Try.func33,Try.ntmps33
 by_cases e : n = k
 case neg =>
  have e0 : ¬ k = n:=fun h => e h.symm
  have e1 : (((n : Nat) : Int) != (k : Int)) = true:=by simp; omega
  have HE:=Lib.hid (len_no (L:=L) (M:=M) (by rw [HL.out,HM.out]; exact e))
  go_wp2_with fail
  go_ret
  exact ⟨zad (by rw [← HV.out,HE.out]),Below.refl _ _⟩
 subst e
 have e1 : (((n : Nat) : Int) != (n : Int)) = false:=by simp
 go_wp2_with fail
 go_loopw [5] (fun i wr => ∃ j : Nat,j ≤ n ∧ i = .int .i64 j ∧ L.take j = M.take j ∧ Below w.heap.size w wr) (fun i _ => n - (intOf i).toNat)
 case atStart => exact ⟨0,Nat.zero_le _,rfl,rfl,Below.refl _ _⟩
 obtain ⟨j,hj,rfl,hp,BW⟩:=hrel
 have HP:=Lib.hid hp
 clear hp
 by_cases hlt : j < n
 ·obtain ⟨b0,off,x,eA,HX,cx⟩:=(hL.on BW).at hlt
  obtain ⟨b1,off1,y,eC,HY,cy⟩:=(hM.on BW).at hlt
  subst eA
  have hjn : (j : Int) < (n : Int):=by omega
  have hj0 : (0 : Int) ≤ (j : Int):=by omega
  try subst eC
  by_cases e : x = y
  ·subst e
   have HT:=Lib.hid (zdh HP.out HX.out HY.out)
   go_wp2_with fail
   go_region
   go_wp2_with fail
   go_roundw
   case rel => exact ⟨j + 1,by omega,by go_num,HT.out,BW.drew⟩
   case measure => simp [intOf]; omega
  have HE:=Lib.hid (ze5 HX.out HY.out e)
  have e1 : (x != y) = true:=by simp [e]
  go_wp2_with fail
  go_region
  go_wp2_with fail
  go_ret
  exact ⟨zad (by rw [← HV.out,HE.out]),BW.drew⟩
 obtain rfl : j = n:=by omega
 have HE:=Lib.hid (zdP HL.out HM.out HP.out)
 go_wp2_with fail
 go_ret
 exact ⟨zad (by rw [← HV.out,HE.out]),BW⟩
structure PtAt (w : World) (b o : Nat) (nm : ByteArray) (A : Option Addr) (m c : Nat) (bs : List Int) : Prop where
  lt : b < w.heap.size
  c1 : w.cell? ⟨b,o,none⟩ = some (.string nm)
  c2 : w.cell? ⟨b,o + 1,none⟩ = some (.slice A m c)
  bits : Is w A m bs
theorem PtAt.on {w w' : World} {b o : Nat} {nm : ByteArray} {A : Option Addr} {m c : Nat} {bs : List Int} (h : PtAt w b o nm A m c bs) (hb : Below w.heap.size w w') : PtAt w' b o nm A m c bs:=
 ⟨Nat.lt_of_lt_of_le h.lt hb.size,(hb.cell (p:=⟨b,o,none⟩) h.lt).trans h.c1,(hb.cell (p:=⟨b,o + 1,none⟩) h.lt).trans h.c2,h.bits.on hb⟩
set_option maxHeartbeats 2000000 in
theorem zd7 {A C : Option Addr} {n c k d : Nat} {L M : List Pt} {w : World} (hL : Ps w A n L) (hM : Ps w C k M) (hn : n ≤ 1000000) (hb : ∀ p ∈ L,p.bits.length ≤ 1000000) (v : Bool) (hv : zcu L M = v) :
    Calls Try.prog 60 #[.slice A n c,.slice C k d] w fun e w' => e = .returned (.bool v) ∧ Below w.heap.size w w':=by
  have HV:=Lib.hid hv
  have HB:=Lib.hid hb
  have HL:=Lib.hid hL.1
  have HM:=Lib.hid hM.1
  clear hv hb
  go_enter Try.func60,Try.ntmps60
  by_cases e : n = k
  case neg =>
    have e0 : ¬ k = n:=fun h => e h.symm
    have e1 : (((n : Nat) : Int) != (k : Int)) = true:=by simp; omega
    have HE:=Lib.hid (sameL_no (L:=L) (M:=M) (by rw [HL.out,HM.out]; exact e))
    go_wp2_with fail
    go_ret
    exact ⟨zad (by rw [← HV.out,HE.out]),Below.refl _ _⟩
  subst e
  have e1 : (((n : Nat) : Int) != (n : Int)) = false:=by simp
  go_wp2_with fail
  go_loopw [5] (fun i wr => ∃ j : Nat,j ≤ n ∧ i = .int .i64 j ∧ (List.range j).all (zcQ L M) = true ∧ Below w.heap.size w wr) (fun i _ => n - (intOf i).toNat)
  case atStart => exact ⟨0,Nat.zero_le _,rfl,rfl,Below.refl _ _⟩
  obtain ⟨j,hj,rfl,hp,BW⟩:=hrel
  have HP:=Lib.hid hp
  clear hp
  by_cases hlt : j < n
  · obtain ⟨b0,off,nm,A',m,c',bs,eA,hbw,HX,k1,k2,hi⟩:=(hL.on BW).at0 hlt
    obtain ⟨b1,off1,nq,C',m1,d',bt,eC,hbw1,HY,l1,l2,hi1⟩:=(hM.on BW).at0 hlt
    subst eA
    have hjn : (j : Int) < (n : Int):=by omega
    have hj0 : (0 : Int) ≤ (j : Int):=by omega
    try subst eC
    have hm : m ≤ 1000000:=by rw [← hi.1]; exact HB.out _ (List.mem_of_getElem? HX.out)
    have hP : PtAt wr b0 (off + j * 2) nm A' m c' bs:=⟨hbw,k1,k2,hi⟩
    have hQ : PtAt wr b1 (off1 + j * 2) nq C' m1 d' bt:=⟨hbw1,l1,l2,hi1⟩
    clear hi hi1
    obtain ⟨u,hu⟩ : ∃ u,(nm.toList == nq.toList) = u:=⟨_,rfl⟩
    obtain ⟨x,hx⟩ : ∃ x,(bs == bt) = x:=⟨_,rfl⟩
    have HX2:=Lib.hid hx
    clear hx
    cases u
    · have HE:=Lib.hid (zeZ HX.out HY.out (show zdd ⟨nm,bs⟩ ⟨nq,bt⟩ = false by unfold zdd; simp only [hu,Bool.false_and]))
      have hu' : (nm.toList != nq.toList) = true:=by simp only [bne,hu,Bool.not_false]
      go_wp2_with fail
      go_region
      go_wp2_with fail
      go_ret
      exact ⟨zad (by rw [← HV.out,HE.out]),BW.drew⟩
    have hu' : (nm.toList != nq.toList) = false:=by simp only [bne,hu,Bool.not_true]
    have HS : Hid (zdd ⟨nm,bs⟩ ⟨nq,bt⟩ = x):=Lib.hid (by unfold zdd; simp only [hu,Bool.true_and]; exact HX2.out)
    go_wp2_with fail
    have b : Below wr.heap.size wr wr.drew:=(Below.refl _ _).drew
    replace hP:=hP.on b
    replace hQ:=hQ.on b
    have BB:=Below.step BW b
    clear BW
    have BW:=Lib.hid BB
    clear b BB k1 k2 l1 l2
    go_region_held3 (fun w' => w'.cell? ⟨b0,off + j * 2,none⟩ = some (.string nm) ∧ w'.cell? ⟨b0,off + j * 2 + 1,none⟩ = some (.slice A' m c') ∧ w'.cell? ⟨b1,off1 + j * 2,none⟩ = some (.string nq) ∧ w'.cell? ⟨b1,off1 + j * 2 + 1,none⟩ = some (.slice C' m1 d'))
      ((with_reducible exact ⟨hP.c1,hP.c2,hQ.c1,hQ.c2⟩))
      (first
        | (go_at_call 33
           (with_reducible refine (rints_as hP.bits hQ.bits hm x HX2.out).mono ?_)
           rintro en w4 ⟨rfl,b⟩
           replace hP:=hP.on b
           replace hQ:=hQ.on b
           replace BW:=Lib.hid (Below.step BW.out b)
           clear b))
    replace BW:=BW.out
    cases x
    · have HE:=Lib.hid (zeZ HX.out HY.out HS.out)
      go_wp2_with fail
      go_ret
      exact ⟨zad (by rw [← HV.out,HE.out]),BW⟩
    have HT:=Lib.hid (zd4 HX.out HY.out HS.out HP.out)
    go_wp2_with fail
    go_roundw
    case rel => exact ⟨j + 1,by omega,by go_num,HT.out,BW⟩
    case measure => simp [intOf]; omega
  obtain rfl : j = n:=by omega
  have HE:=Lib.hid (sameL_end HL.out HM.out HP.out)
  go_wp2_with fail
  go_ret
  exact ⟨zad (by rw [← HV.out,HE.out]),BW⟩
set_option maxHeartbeats 4000000 in
theorem zcI {An Ai Ao Bn Bi Bo : Option Addr} {nn cn ni ci no co mn dn mi di mo do' : Nat} {N N' : List Nd} {I I' O O' : List Pt} {w : World} (h : Nt w An nn cn Ai ni ci Ao no co N I O) (h' : Nt w Bn mn dn Bi mi di Bo mo do' N' I' O') (v : Bool) (hv : zct N N' I I' O O' = v) :
  Calls Try.prog 32 #[.agg #[.slice An nn cn,.slice Ai ni ci,.slice Ao no co],.agg #[.slice Bn mn dn,.slice Bi mi di,.slice Bo mo do']] w fun e w' => e = .returned (.bool v) ∧ Below w.heap.size w w':=by
 have HV:=Lib.hid hv
 clear hv
 go_enter Try.func32,Try.ntmps32
 go_upto_region 1 with fail
 obtain ⟨w1,e_w1,z0,b1⟩:=zmB w [.slice An nn cn,.slice Ai ni ci,.slice Ao no co] 25
 have hs1 : w1.heap.size = w.heap.size + 1:=e_w1 ▸ zal w _ rfl
 rw [e_w1]
 clear e_w1
 obtain ⟨w2,e_w2⟩ : ∃ w',w1.alloc (.cells #[.slice Bn mn dn,.slice Bi mi di,.slice Bo mo do'] 25) = w':=⟨_,rfl⟩
 have z1 : Bx w2 (w.heap.size + 1) [.slice Bn mn dn,.slice Bi mi di,.slice Bo mo do']:=e_w2 ▸ Bx.made_k w1 hs1 #[.slice Bn mn dn,.slice Bi mi di,.slice Bo mo do'] 25
 have b2 : Below w1.heap.size w1 w2:=e_w2 ▸ zaa _ _
 rw [e_w2]
 clear e_w2
 replace z0:=z0.on b2
 have BW:=Below.step b1 b2
 replace h:=h.on BW
 replace h':=h'.on BW
 have hn1 : nn ≤ 1000000:=by have:=h.hn; omega
 have hn2 : ni ≤ 1000000:=by have:=h.hs; omega
 have hn3 : no ≤ 1000000:=by have:=h.hs; omega
 have HB2 : Hid (∀ p ∈ I,p.bits.length ≤ 1000000):=Lib.hid fun p hp => h.hb p (List.mem_append_left _ hp)
 have HB3 : Hid (∀ p ∈ O,p.bits.length ≤ 1000000):=Lib.hid fun p hp => h.hb p (List.mem_append_right _ hp)
 have HL:=Lib.hid h.n.1
 have HM:=Lib.hid h'.n.1
 have H9:=z0.2 0 _ rfl
 have H6:=z1.2 0 _ rfl
 by_cases e : nn = mn
 case neg =>
  have e0 : ¬ mn = nn:=fun h => e h.symm
  have e1 : (((nn : Nat) : Int) != (mn : Int)) = true:=by simp; omega
  have HE:=Lib.hid (len_no (L:=N) (M:=N') (by rw [HL.out,HM.out]; exact e))
  have H1 : Hid (zct N N' I I' O O' = false):=Lib.hid (by unfold zct; rw [HE.out]; rfl)
  go_wp2_with fail
  go_ret
  exact ⟨zad (by rw [← HV.out,H1.out]),BW⟩
 subst e
 have e1 : (((nn : Nat) : Int) != (nn : Int)) = false:=by simp
 go_wp2_with fail
 clear H9 H6
 go_loopw [5] (fun i wr => ∃ j : Nat,j ≤ nn ∧ i = .int .i64 j ∧ N.take j = N'.take j ∧ Below w2.heap.size w2 wr) (fun i _ => nn - (intOf i).toNat)
 case atStart => exact ⟨0,Nat.zero_le _,rfl,rfl,Below.refl _ _⟩
 obtain ⟨j,hj,rfl,hp,BR⟩:=hrel
 have HP:=Lib.hid hp
 clear hp
 have H9:=(z0.on BR).2 0 _ rfl
 have H6:=(z1.on BR).2 0 _ rfl
 by_cases hlt : j < nn
 ·obtain ⟨b0,off,x1,x2,x3,x4,eA,HX,n1,n2,n3,n4⟩:=(h.n.on BR).at hlt
  obtain ⟨b1,off1,y1,y2,y3,y4,eC,HY,m1,m2,m3,m4⟩:=(h'.n.on BR).at hlt
  subst eA
  have hjn : (j : Int) < (nn : Int):=by omega
  have hj0 : (0 : Int) ≤ (j : Int):=by omega
  try subst eC
  by_cases e : (⟨x1,x2,x3,x4⟩ : Nd) = ⟨y1,y2,y3,y4⟩
  ·injection e with e1 e2 e3 e4
   subst e1 e2 e3 e4
   have HT:=Lib.hid (zdh HP.out HX.out HY.out)
   go_wp2_with fail
   go_region
   go_wp2_with fail
   go_roundw
   case rel => exact ⟨j + 1,by omega,by go_num,HT.out,BR.drew⟩
   case measure => simp [intOf]; omega
  have HE:=Lib.hid (ze5 HX.out HY.out e)
  have H1 : Hid (zct N N' I I' O O' = false):=Lib.hid (by unfold zct; rw [HE.out]; rfl)
  by_cases h1 : x1 = y1
  case neg =>
   go_wp2_with fail
   go_region
   go_wp2_with fail
   go_ret
   exact ⟨zad (by rw [← HV.out,H1.out]),Below.step BW BR.drew⟩
  subst h1
  by_cases h2 : x2 = y2
  case neg =>
   go_wp2_with fail
   go_region
   go_wp2_with fail
   go_ret
   exact ⟨zad (by rw [← HV.out,H1.out]),Below.step BW BR.drew⟩
  subst h2
  by_cases h3 : x3 = y3
  case neg =>
   go_wp2_with fail
   go_region
   go_wp2_with fail
   go_ret
   exact ⟨zad (by rw [← HV.out,H1.out]),Below.step BW BR.drew⟩
  subst h3
  by_cases h4 : x4 = y4
  case neg =>
   go_wp2_with fail
   go_region
   go_wp2_with fail
   go_ret
   exact ⟨zad (by rw [← HV.out,H1.out]),Below.step BW BR.drew⟩
  subst h4
  exact absurd rfl e
 obtain rfl : j = nn:=by omega
 have HE:=Lib.hid (zdP HL.out HM.out HP.out)
 have z0c1:=(z0.on BR).2 1 _ rfl
 have z1c1:=(z1.on BR).2 1 _ rfl
 obtain ⟨u2,hu2⟩ : ∃ u,zcu I I' = u:=⟨_,rfl⟩
 obtain ⟨u3,hu3⟩ : ∃ u,zcu O O' = u:=⟨_,rfl⟩
 have H2:=Lib.hid hu2
 have H3:=Lib.hid hu3
 clear hu2 hu3
 cases u2
 ·have H1 : Hid (v = false):=Lib.hid (by rw [← HV.out]; unfold zct; rw [HE.out,H2.out]; rfl)
  go_wp2_with (go_at_call 60; refine (zd7 (h.i.on BR) (h'.i.on BR) hn2 HB2.out false H2.out).mono ?_; rintro e w4 ⟨rfl,b4⟩; have H0:=Below.step BR b4; have B4:=Below.step BW H0; have H8:=(z0.on H0).2 1 _ rfl; have H7:=(z0.on H0).2 2 _ rfl; have H5:=(z1.on H0).2 1 _ rfl; have H4:=(z1.on H0).2 2 _ rfl)
  go_ret
  exact ⟨zad H1.out.symm,B4⟩
 have H1 : Hid (v = u3):=Lib.hid (by rw [← HV.out]; unfold zct; rw [HE.out,H2.out,H3.out]; rfl)
 go_wp2_with (first | (go_at_call 60; refine (zd7 (h.o.on H0) (h'.o.on H0) hn3 HB3.out u3 H3.out).mono ?_; rintro e w5 ⟨rfl,b5⟩; have B5:=Below.step B4 b5) | (go_at_call 60; refine (zd7 (h.i.on BR) (h'.i.on BR) hn2 HB2.out true H2.out).mono ?_; rintro e w4 ⟨rfl,b4⟩; have H0:=Below.step BR b4; have B4:=Below.step BW H0; have H8:=(z0.on H0).2 1 _ rfl; have H7:=(z0.on H0).2 2 _ rfl; have H5:=(z1.on H0).2 1 _ rfl; have H4:=(z1.on H0).2 2 _ rfl))
 go_ret
 exact ⟨zad H1.out.symm,B5⟩
set_option maxRecDepth 4000
def zbd (k : Int) : Int:=if za8 k then (zau k : Int) else -1
theorem many_0 (k : Int) (w : World)  (h : (k == 0) = true) : Calls Try.prog 47 #[.int .i64 k] w fun e w' => e = .returned (.int .i64 0) ∧ Below w.heap.size w w':=by
 go_enter Try.func47,Try.ntmps47
 go_wp2_with fail
 go_ret
 exact ⟨rfl,Below.refl _ _⟩
theorem many_1 (k : Int) (w : World) (h0 : (k == 0) = false) (h : (k == 1) = true) : Calls Try.prog 47 #[.int .i64 k] w fun e w' => e = .returned (.int .i64 0) ∧ Below w.heap.size w w':=by
 go_enter Try.func47,Try.ntmps47
 go_wp2_with fail
 go_ret
 exact ⟨rfl,Below.refl _ _⟩
theorem many_2 (k : Int) (w : World) (h0 : (k == 0) = false) (h1 : (k == 1) = false) (h : (k == 2) = true) : Calls Try.prog 47 #[.int .i64 k] w fun e w' => e = .returned (.int .i64 1) ∧ Below w.heap.size w w':=by
 go_enter Try.func47,Try.ntmps47
 go_wp2_with fail
 go_ret
 exact ⟨rfl,Below.refl _ _⟩
theorem many_7 (k : Int) (w : World) (h0 : (k == 0) = false) (h1 : (k == 1) = false) (h2 : (k == 2) = false) (h : (k == 7) = true) : Calls Try.prog 47 #[.int .i64 k] w fun e w' => e = .returned (.int .i64 1) ∧ Below w.heap.size w w':=by
 go_enter Try.func47,Try.ntmps47
 go_wp2_with fail
 go_ret
 exact ⟨rfl,Below.refl _ _⟩
theorem many_3 (k : Int) (w : World) (h0 : (k == 0) = false) (h1 : (k == 1) = false) (h2 : (k == 2) = false) (h7 : (k == 7) = false) (h : (k == 3) = true) : Calls Try.prog 47 #[.int .i64 k] w fun e w' => e = .returned (.int .i64 2) ∧ Below w.heap.size w w':=by
 go_enter Try.func47,Try.ntmps47
 go_wp2_with fail
 go_ret
 exact ⟨rfl,Below.refl _ _⟩
theorem many_4 (k : Int) (w : World) (h0 : (k == 0) = false) (h1 : (k == 1) = false) (h2 : (k == 2) = false) (h7 : (k == 7) = false) (h3 : (k == 3) = false) (h : (k == 4) = true) : Calls Try.prog 47 #[.int .i64 k] w fun e w' => e = .returned (.int .i64 2) ∧ Below w.heap.size w w':=by
 go_enter Try.func47,Try.ntmps47
 go_wp2_with fail
 go_ret
 exact ⟨rfl,Below.refl _ _⟩
theorem many_5 (k : Int) (w : World) (h0 : (k == 0) = false) (h1 : (k == 1) = false) (h2 : (k == 2) = false) (h7 : (k == 7) = false) (h3 : (k == 3) = false) (h4 : (k == 4) = false) (h : (k == 5) = true) : Calls Try.prog 47 #[.int .i64 k] w fun e w' => e = .returned (.int .i64 2) ∧ Below w.heap.size w w':=by
 go_enter Try.func47,Try.ntmps47
 go_wp2_with fail
 go_ret
 exact ⟨rfl,Below.refl _ _⟩
theorem many_6 (k : Int) (w : World) (h0 : (k == 0) = false) (h1 : (k == 1) = false) (h2 : (k == 2) = false) (h7 : (k == 7) = false) (h3 : (k == 3) = false) (h4 : (k == 4) = false) (h5 : (k == 5) = false) (h : (k == 6) = true) : Calls Try.prog 47 #[.int .i64 k] w fun e w' => e = .returned (.int .i64 3) ∧ Below w.heap.size w w':=by
 go_enter Try.func47,Try.ntmps47
 go_wp2_with fail
 go_ret
 exact ⟨rfl,Below.refl _ _⟩
theorem many_no (k : Int) (w : World) (h0 : (k == 0) = false) (h1 : (k == 1) = false) (h2 : (k == 2) = false) (h7 : (k == 7) = false) (h3 : (k == 3) = false) (h4 : (k == 4) = false) (h5 : (k == 5) = false) (h6 : (k == 6) = false) : Calls Try.prog 47 #[.int .i64 k] w fun e w' => e = .returned (.int .i64 (-1)) ∧ Below w.heap.size w w':=by
 go_enter Try.func47,Try.ntmps47
 go_wp2_with fail
 go_ret
 exact ⟨rfl,Below.refl _ _⟩
theorem zb0 (k v : Int) (hv : zbd k = v) (w : World) : Calls Try.prog 47 #[.int .i64 k] w fun e w' => e = .returned (.int .i64 v) ∧ Below w.heap.size w w':=by
 subst hv
 by_cases h0 : k = 0
 ·have e : zbd k = 0:=by subst h0; rfl
  rw [e]
  exact many_0 k w  (zav h0)
 by_cases h1 : k = 1
 ·have e : zbd k = 0:=by subst h1; rfl
  rw [e]
  exact many_1 k w (zae h0) (zav h1)
 by_cases h2 : k = 2
 ·have e : zbd k = 1:=by subst h2; rfl
  rw [e]
  exact many_2 k w (zae h0) (zae h1) (zav h2)
 by_cases h7 : k = 7
 ·have e : zbd k = 1:=by subst h7; rfl
  rw [e]
  exact many_7 k w (zae h0) (zae h1) (zae h2) (zav h7)
 by_cases h3 : k = 3
 ·have e : zbd k = 2:=by subst h3; rfl
  rw [e]
  exact many_3 k w (zae h0) (zae h1) (zae h2) (zae h7) (zav h3)
 by_cases h4 : k = 4
 ·have e : zbd k = 2:=by subst h4; rfl
  rw [e]
  exact many_4 k w (zae h0) (zae h1) (zae h2) (zae h7) (zae h3) (zav h4)
 by_cases h5 : k = 5
 ·have e : zbd k = 2:=by subst h5; rfl
  rw [e]
  exact many_5 k w (zae h0) (zae h1) (zae h2) (zae h7) (zae h3) (zae h4) (zav h5)
 by_cases h6 : k = 6
 ·have e : zbd k = 3:=by subst h6; rfl
  rw [e]
  exact many_6 k w (zae h0) (zae h1) (zae h2) (zae h7) (zae h3) (zae h4) (zae h5) (zav h6)
 have e : zbd k = -1:=by
  unfold zbd za8
  rw [if_neg]
  simp only [Bool.and_eq_true,decide_eq_true_eq]
  omega
 rw [e]
 exact many_no k w (zae h0) (zae h1) (zae h2) (zae h7) (zae h3) (zae h4) (zae h5) (zae h6)
theorem many_max (k : Int) : max (zbd k) 0 = (zau k : Int):=by
 unfold zbd
 split
 ·omega
 rename_i h
 have : zau k = 0:=by
  unfold za8 at h
  simp only [Bool.and_eq_true,decide_eq_true_eq] at h
  unfold zau
  rw [if_neg (by omega),if_neg (by omega),if_neg (by omega)]
 rw [this]
 rfl
set_option maxHeartbeats 1000000 in
theorem ruses_t (k p q r : Int) (w : World) (hk : za8 k = true) : Calls Try.prog 21 #[.agg #[.int .i64 k,.int .i64 p,.int .i64 q,.int .i64 r]] w fun en w' => ∃ A m c,en = .returned (.slice A m c) ∧ Is w' A m (zag ⟨k,p,q,r⟩) ∧ m ≤ 3 ∧ Below w.heap.size w w':=by
 obtain ⟨m,hm⟩ : ∃ m,zau k = m:=⟨_,rfl⟩
 have hm3 : (m : Int) ≤ 3:=by have:=zbM k; omega
 have hm0 : (0 : Int) ≤ (m : Int):=by omega
 have HM:=Lib.hid hm
 have HLN : Hid ((zag ⟨k,p,q,r⟩).length = m):=Lib.hid (by rw [zbo]; exact hm)
 obtain ⟨v,hv⟩ : ∃ v,zbd k = v:=⟨_,rfl⟩
 have HV:=Lib.hid hv
 obtain rfl : (m : Int) = v:=by rw [← hv,← hm]; unfold zbd; rw [if_pos hk]
 have hmn : ¬ (m : Int) < 0:=by omega
 clear hm hv
 go_enter Try.func21,Try.ntmps21
 go_upto_region 1 with fail
 obtain ⟨w1,e_w1,z0,b1⟩:=zmB w [.int .i64 k,.int .i64 p,.int .i64 q,.int .i64 r] 43
 rw [e_w1]
 clear e_w1
 obtain ⟨z0c1,z0c2,z0c3⟩:=z0.zbc1c2c3
 go_upto_region 2 with fail
 obtain ⟨w2,e_w2,z1,b2⟩:=zmB w1 [.int .i64 p,.int .i64 q,.int .i64 r] 3
 rw [e_w2]
 clear e_w2 z0c1 z0c2 z0c3
 have BW:=Below.step b1 b2
 replace z0:=z0.on b2
 have H0:=z0.2 0 _ rfl
 clear b1 b2
 go_wp2_with fail
 refine (zb0 k m HV.out _).mono ?_
 rintro en w3 ⟨rfl,b3⟩
 replace z1:=z1.on b3
 replace BW:=Below.step BW b3
 clear H0 b3
 go_wp2_with fail
 refine bodyPost_ret (v:=.slice (some ⟨w1.heap.size,0,none⟩) m 3) (by simp [results,Try.results21,go_sem]) rfl ?_
 refine ⟨_,m,_,rfl,⟨HLN.out,fun j x hx => ⟨_,0,rfl,z1.1,?_⟩⟩,by omega,BW⟩
 rw [Nat.zero_add]
 exact z1.2 j _ (zd1 j x (by rw [HM.out,← HLN.out]; exact (List.getElem?_eq_some_iff.1 hx).1) hx)
set_option maxHeartbeats 1000000 in
theorem ruses_f (k p q r : Int) (w : World) (hk : za8 k = false) : Calls Try.prog 21 #[.agg #[.int .i64 k,.int .i64 p,.int .i64 q,.int .i64 r]] w fun en w' => ∃ A m c,en = .returned (.slice A m c) ∧ Is w' A m (zag ⟨k,p,q,r⟩) ∧ m ≤ 3 ∧ Below w.heap.size w w':=by
 obtain ⟨m,hm⟩ : ∃ m,zau k = m:=⟨_,rfl⟩
 have hm3 : (m : Int) ≤ 3:=by have:=zbM k; omega
 have hm0 : (0 : Int) ≤ (m : Int):=by omega
 have HM:=Lib.hid hm
 have HLN : Hid ((zag ⟨k,p,q,r⟩).length = m):=Lib.hid (by rw [zbo]; exact hm)
 obtain ⟨v,hv⟩ : ∃ v,zbd k = v:=⟨_,rfl⟩
 have HV:=Lib.hid hv
 obtain rfl : -1 = v:=by rw [← hv]; unfold zbd; rw [hk]; rfl
 obtain rfl : 0 = m:=by have:=many_max k; unfold zbd at this; rw [hk] at this; simp at this; omega
 clear hm hv
 go_enter Try.func21,Try.ntmps21
 go_upto_region 1 with fail
 obtain ⟨w1,e_w1,z0,b1⟩:=zmB w [.int .i64 k,.int .i64 p,.int .i64 q,.int .i64 r] 43
 rw [e_w1]
 clear e_w1
 obtain ⟨z0c1,z0c2,z0c3⟩:=z0.zbc1c2c3
 go_upto_region 2 with fail
 obtain ⟨w2,e_w2,z1,b2⟩:=zmB w1 [.int .i64 p,.int .i64 q,.int .i64 r] 3
 rw [e_w2]
 clear e_w2 z0c1 z0c2 z0c3
 have BW:=Below.step b1 b2
 replace z0:=z0.on b2
 have H0:=z0.2 0 _ rfl
 clear b1 b2
 go_wp2_with fail
 refine (zb0 k (-1) HV.out _).mono ?_
 rintro en w3 ⟨rfl,b3⟩
 replace z1:=z1.on b3
 replace BW:=Below.step BW b3
 clear H0 b3
 go_wp2_with fail
 refine bodyPost_ret (v:=.slice (some ⟨w1.heap.size,0,none⟩) 0 3) (by simp [results,Try.results21,go_sem]) rfl ?_
 refine ⟨_,0,_,rfl,⟨HLN.out,fun j x hx => ⟨_,0,rfl,z1.1,?_⟩⟩,by omega,BW⟩
 rw [Nat.zero_add]
 exact z1.2 j _ (zd1 j x (by rw [HM.out,← HLN.out]; exact (List.getElem?_eq_some_iff.1 hx).1) hx)
theorem zch (k p q r : Int) (w : World) : Calls Try.prog 21 #[.agg #[.int .i64 k,.int .i64 p,.int .i64 q,.int .i64 r]] w fun en w' => ∃ A m c,en = .returned (.slice A m c) ∧ Is w' A m (zag ⟨k,p,q,r⟩) ∧ m ≤ 3 ∧ Below w.heap.size w w':=by
 cases h : za8 k
 ·exact ruses_f k p q r w h
 exact ruses_t k p q r w h
theorem zbb (n : Int) (v : Bool) (hv : bitS n = v) (w : World) : Calls Try.prog 122 #[.int .i64 n] w fun e w' => e = .returned (.bool v) ∧ Below w.heap.size w w':=by
 unfold bitS at hv
 by_cases h0 : n = 0
 ·have e0:=zav h0
  obtain rfl : true = v:=by rw [← hv]; simp [h0]
  go_enter Try.func122,Try.ntmps122
  go_wp2_with fail
  go_ret
  exact ⟨rfl,Below.refl _ _⟩
 have e0:=zae h0
 by_cases h1 : n = 1
 ·have e1:=zav h1
  obtain rfl : true = v:=by rw [← hv]; simp [h1]
  go_enter Try.func122,Try.ntmps122
  go_wp2_with fail
  go_ret
  exact ⟨rfl,Below.refl _ _⟩
 have e1:=zae h1
 obtain rfl : false = v:=by rw [← hv]; simp [h0,h1]
 go_enter Try.func122,Try.ntmps122
 go_wp2_with fail
 go_ret
 exact ⟨rfl,Below.refl _ _⟩
set_option maxRecDepth 4000
def sumS (L : List Pt) (k : Nat) : Nat:=((L.take k).map fun p => p.bits.length + p.name.size).sum
theorem zdM {L : List Pt} {k : Nat} {p : Pt} (h : L[k]? = some p) : sumS L (k + 1) = sumS L k + (p.bits.length + p.name.size):=by
 unfold sumS
 rw [List.take_add_one,h]
 simp
theorem sum_le (L : List Pt) (B : Nat) (h : ∀ p ∈ L,p.bits.length ≤ B ∧ p.name.size ≤ B) (k : Nat) : sumS L k ≤ k * (2 * B):=by
 induction k with
 | zero => simp [sumS]
 | succ k ih =>
  cases hk : L[k]? with
  | none =>
   have : sumS L (k + 1) = sumS L k:=by unfold sumS; rw [List.take_add_one,hk]; simp
   rw [this,Nat.succ_mul]
   omega
  | some p =>
   rw [zdM hk,Nat.succ_mul]
   have:=h p (List.mem_of_getElem? hk)
   omega
theorem sum_all {L : List Pt} {j k : Nat} (h : L.length ≤ j) (hk : L.length ≤ k) : sumS L j = sumS L k:=by
 unfold sumS
 rw [List.take_of_length_le h,List.take_of_length_le hk]
theorem mem_sum : ∀ (L : List Nat) (x : Nat),x ∈ L → x ≤ L.sum:=by
 intro L
 induction L with
 | nil => intro x h; cases h
 | cons y L ih =>
  intro x h
  rw [List.sum_cons]
  rcases List.mem_cons.1 h with rfl | h
  ·omega
  have:=ih x h
  omega
theorem sum_mem {L : List Pt} {p : Pt} (h : p ∈ L) {k : Nat} (hk : L.length ≤ k) : p.bits.length + p.name.size ≤ sumS L k:=by
 unfold sumS
 rw [List.take_of_length_le hk]
 have : p.bits.length + p.name.size ∈ L.map fun p => p.bits.length + p.name.size:=List.mem_map.2 ⟨p,h,rfl⟩
 exact mem_sum _ _ this
def zaY (nn ni no : Nat) (I O : List Pt) (M : Nat) : Bool:=decide ((M : Int) < (nn : Int)) || (decide (66 < ni) || (decide (66 < no) || decide (4000 < sumS I 70 + sumS O 70)))
theorem large_no {nn ni no : Nat} {I O : List Pt} {M : Nat} (h : zaY nn ni no I O M = false) (hi : I.length = ni) (ho : O.length = no) : nn ≤ M ∧ ni ≤ 66 ∧ no ≤ 66 ∧ ∀ p ∈ I ++ O,p.bits.length ≤ 4000 ∧ p.name.size ≤ 4000:=by
 unfold zaY at h
 simp only [Bool.or_eq_false_iff,decide_eq_false_iff_not] at h
 obtain ⟨h1,h2,h3,h4⟩:=h
 refine ⟨by omega,by omega,by omega,fun p hp => ?_⟩
 rcases List.mem_append.1 hp with hp | hp
 ·have:=sum_mem hp (show I.length ≤ 70 by omega)
  omega
 have:=sum_mem hp (show O.length ≤ 70 by omega)
 omega
set_option maxHeartbeats 8000000 in
theorem rlarge_as {An Ai Ao : Option Addr} {nn cn ni ci no co : Nat} {I O : List Pt} {w : World} (hI : Ps w Ai ni I) (hO : Ps w Ao no O) (hn : nn ≤ 140737488351232) (hni : ni ≤ 140737488351232) (hno : no ≤ 140737488351232)
    (hbI : ∀ p ∈ I,p.bits.length ≤ 140737488351232 ∧ p.name.size ≤ 140737488351232) (hbO : ∀ p ∈ O,p.bits.length ≤ 140737488351232 ∧ p.name.size ≤ 140737488351232) (M : Nat) (hM : M ≤ 1000) (v : Bool) (hv : zaY nn ni no I O M = v) :
    Calls Try.prog 20 #[.agg #[.slice An nn cn,.slice Ai ni ci,.slice Ao no co],.int .i64 M] w fun e w' => e = .returned (.bool v) ∧ Below w.heap.size w w':=by
  have HV:=Lib.hid hv
  have H9:=Lib.hid hbI
  have H8:=Lib.hid hbO
  clear hv hbI hbO
  go_enter Try.func20,Try.ntmps20
  go_upto_region 1 with fail
  obtain ⟨w1,e_w1,z0,BW⟩:=zmB w [.slice An nn cn,.slice Ai ni ci,.slice Ao no co] 25
  rw [e_w1]
  clear e_w1
  replace hI:=hI.on BW
  replace hO:=hO.on BW
  go_wp2_with fail
  go_loopw [5,6] (fun c i wr => ∃ j cc : Nat,j ≤ ni ∧ j ≤ 70 ∧ i = .int .i64 j ∧ c = .int .i64 cc ∧ cc = 0 + sumS I j ∧ Below w1.heap.size w1 wr) (fun _ i _ => ni - (intOf i).toNat)
  case atStart => exact ⟨0,0,Nat.zero_le _,Nat.zero_le _,rfl,rfl,by simp [sumS],Below.refl _ _⟩
  obtain ⟨j,cc,hj,hj7,rfl,rfl,hcc,BR⟩:=hrel
  have HC:=Lib.hid hcc
  have H7 : cc ≤ 0 + j * 281474976702464:=by
    have:=sum_le I 140737488351232 H9.out j
    omega
  clear hcc
  have H3:=(z0.on BR).2 1 _ rfl
  by_cases hlt : j < ni
  · by_cases h70 : j < 70
    · obtain ⟨b0,off,nm,A',m,c',bs,eA,hbw,HX,k1,k2,hi⟩:=(hI.on BR).at0 hlt
      subst eA
      obtain ⟨sz,hsz⟩ : ∃ sz,nm.size = sz:=⟨_,rfl⟩
      have HS:=Lib.hid (zdM HX.out)
      have HM:=Lib.hid (H9.out _ (List.mem_of_getElem? HX.out))
      have hm : m ≤ 140737488351232:=by rw [← hi.1]; exact HM.out.1
      have hs : sz ≤ 140737488351232:=by rw [← hsz]; exact HM.out.2
      have HMb:=Lib.hid hi.1
      have HZ:=Lib.hid hsz
      obtain ⟨q,hq⟩ : ∃ q,m + sz = q:=⟨_,rfl⟩
      obtain ⟨t,ht⟩ : ∃ t,cc + q = t:=⟨_,rfl⟩
      have HT : Hid (t = 0 + sumS I (j + 1)):=Lib.hid (by rw [HS.out,← ht,HC.out,← hq,← hsz,← hi.1]; show 0 + sumS I j + (bs.length + nm.size) = 0 + (sumS I j + (bs.length + nm.size)); omega)
      have e1 : (m : Int) + (sz : Int) = (q : Int):=by omega
      have e2 : (cc : Int) + (q : Int) = (t : Int):=by omega
      have H4 : (j : Int) < (ni : Int):=by omega
      have hj0 : (0 : Int) ≤ (j : Int):=by omega
      have H2 : (j : Int) < 70:=by omega
      have hqb : q ≤ 281474976702464:=by omega
      have htb : t ≤ 60000000000000000:=by omega
      clear hi HS HM HC hq ht
      go_wp2_with fail
      go_region
      go_wp2_with fail
      go_roundw
      case rel => exact ⟨j + 1,t,by omega,by omega,by go_num,rfl,HT.out,BR.drew⟩
      case measure => simp [intOf]; omega
    have HE : Hid (cc = 0 + sumS I 70):=Lib.hid (by rw [HC.out,show j = 70 by omega])
    have H4 : (j : Int) < (ni : Int):=by omega
    have H2 : ¬ (j : Int) < 70:=by omega
    clear HC
    go_wp2_with fail
    obtain ⟨cc0,hcc0⟩ : ∃ x,cc = x:=⟨_,rfl⟩
    rw [hcc0] at H7 ⊢
    have H6 : Hid (cc0 = sumS I 70):=Lib.hid (by have:=HE.out; omega)
    clear hcc0
    obtain ⟨w7,rfl⟩ : ∃ x,x = wr:=⟨_,rfl⟩
    have Ha : cc0 ≤ 19703248369172480:=by
      have:=sum_le I 140737488351232 H9.out 70
      have:=H6.out
      omega
    replace hO:=hO.on BR
    replace z0:=z0.on BR
    have B8:=Below.step BW BR
    clear BR H3 HE
    go_loopw [5,7] (fun c i wr => ∃ j cc : Nat,j ≤ no ∧ j ≤ 70 ∧ i = .int .i64 j ∧ c = .int .i64 cc ∧ cc = cc0 + sumS O j ∧ Below w7.heap.size w7 wr) (fun _ i _ => no - (intOf i).toNat)
    case atStart => exact ⟨0,cc0,Nat.zero_le _,Nat.zero_le _,rfl,rfl,by simp [sumS],Below.refl _ _⟩
    obtain ⟨j,cc,hj,hj7,rfl,rfl,hcc,BR⟩:=hrel
    have HC:=Lib.hid hcc
    have H7 : cc ≤ cc0 + j * 281474976702464:=by
      have:=sum_le O 140737488351232 H8.out j
      omega
    clear hcc
    have H3:=(z0.on BR).2 2 _ rfl
    by_cases hlt : j < no
    · by_cases h70 : j < 70
      · obtain ⟨b0,off,nm,A',m,c',bs,eA,hbw,HX,k1,k2,hi⟩:=(hO.on BR).at0 hlt
        subst eA
        obtain ⟨sz,hsz⟩ : ∃ sz,nm.size = sz:=⟨_,rfl⟩
        have HS:=Lib.hid (zdM HX.out)
        have HM:=Lib.hid (H8.out _ (List.mem_of_getElem? HX.out))
        have hm : m ≤ 140737488351232:=by rw [← hi.1]; exact HM.out.1
        have hs : sz ≤ 140737488351232:=by rw [← hsz]; exact HM.out.2
        have HMb:=Lib.hid hi.1
        have HZ:=Lib.hid hsz
        obtain ⟨q,hq⟩ : ∃ q,m + sz = q:=⟨_,rfl⟩
        obtain ⟨t,ht⟩ : ∃ t,cc + q = t:=⟨_,rfl⟩
        have HT : Hid (t = cc0 + sumS O (j + 1)):=Lib.hid (by rw [HS.out,← ht,HC.out,← hq,← hsz,← hi.1]; show cc0 + sumS O j + (bs.length + nm.size) = cc0 + (sumS O j + (bs.length + nm.size)); omega)
        have e1 : (m : Int) + (sz : Int) = (q : Int):=by omega
        have e2 : (cc : Int) + (q : Int) = (t : Int):=by omega
        have H4 : (j : Int) < (no : Int):=by omega
        have hj0 : (0 : Int) ≤ (j : Int):=by omega
        have H2 : (j : Int) < 70:=by omega
        have hqb : q ≤ 281474976702464:=by omega
        have htb : t ≤ 60000000000000000:=by omega
        clear hi HS HM HC hq ht
        go_wp2_with fail
        go_region
        go_wp2_with fail
        go_roundw
        case rel => exact ⟨j + 1,t,by omega,by omega,by go_num,rfl,HT.out,BR.drew⟩
        case measure => simp [intOf]; omega
      have HE : Hid (cc = cc0 + sumS O 70):=Lib.hid (by rw [HC.out,show j = 70 by omega])
      have H4 : (j : Int) < (no : Int):=by omega
      have H2 : ¬ (j : Int) < 70:=by omega
      clear HC
      have H5:=(z0.on BR).2 0 _ rfl
      have H1:=(z0.on BR).2 1 _ rfl
      have B9:=Below.step B8 BR
      have HW : Hid (v = zaY nn ni no I O M):=Lib.hid HV.out.symm
      have H0 : Hid (cc = sumS I 70 + sumS O 70):=Lib.hid (by rw [HE.out,H6.out])
      by_cases g0 : (M : Int) < (nn : Int)
      case pos =>
        first
          | (exfalso; omega)
          | (have HF : Hid (v = true):=Lib.hid (by rw [HW.out]; have:=H0.out; unfold zaY; simp; omega)
             go_wp2_with fail
             go_ret
             exact ⟨zad HF.out.symm,B9⟩)
      by_cases g1 : (66 : Int) < (ni : Int)
      case pos =>
        first
          | (exfalso; omega)
          | (have HF : Hid (v = true):=Lib.hid (by rw [HW.out]; have:=H0.out; unfold zaY; simp; omega)
             go_wp2_with fail
             go_ret
             exact ⟨zad HF.out.symm,B9⟩)
      by_cases g2 : (66 : Int) < (no : Int)
      case pos =>
        first
          | (exfalso; omega)
          | (have HF : Hid (v = true):=Lib.hid (by rw [HW.out]; have:=H0.out; unfold zaY; simp; omega)
             go_wp2_with fail
             go_ret
             exact ⟨zad HF.out.symm,B9⟩)
      by_cases g3 : (4000 : Int) < (cc : Int)
      case pos =>
        first
          | (exfalso; omega)
          | (have HF : Hid (v = true):=Lib.hid (by rw [HW.out]; have:=H0.out; unfold zaY; simp; omega)
             go_wp2_with fail
             go_ret
             exact ⟨zad HF.out.symm,B9⟩)
      first
        | (exfalso; omega)
        | (have HF : Hid (v = false):=Lib.hid (by rw [HW.out]; have:=H0.out; unfold zaY; simp; omega)
           go_wp2_with fail
           go_ret
           exact ⟨zad HF.out.symm,B9⟩)
    have HE : Hid (cc = cc0 + sumS O 70):=Lib.hid (by
      have hl:=hO.1
      rw [HC.out,sum_all (L:=O) (by omega) (show O.length ≤ 70 by omega)])
    have H4 : ¬ (j : Int) < (no : Int):=by omega
    clear HC
    have H5:=(z0.on BR).2 0 _ rfl
    have H1:=(z0.on BR).2 1 _ rfl
    have B9:=Below.step B8 BR
    have HW : Hid (v = zaY nn ni no I O M):=Lib.hid HV.out.symm
    have H0 : Hid (cc = sumS I 70 + sumS O 70):=Lib.hid (by rw [HE.out,H6.out])
    by_cases g0 : (M : Int) < (nn : Int)
    case pos =>
      first
        | (exfalso; omega)
        | (have HF : Hid (v = true):=Lib.hid (by rw [HW.out]; have:=H0.out; unfold zaY; simp; omega)
           go_wp2_with fail
           go_ret
           exact ⟨zad HF.out.symm,B9⟩)
    by_cases g1 : (66 : Int) < (ni : Int)
    case pos =>
      first
        | (exfalso; omega)
        | (have HF : Hid (v = true):=Lib.hid (by rw [HW.out]; have:=H0.out; unfold zaY; simp; omega)
           go_wp2_with fail
           go_ret
           exact ⟨zad HF.out.symm,B9⟩)
    by_cases g2 : (66 : Int) < (no : Int)
    case pos =>
      first
        | (exfalso; omega)
        | (have HF : Hid (v = true):=Lib.hid (by rw [HW.out]; have:=H0.out; unfold zaY; simp; omega)
           go_wp2_with fail
           go_ret
           exact ⟨zad HF.out.symm,B9⟩)
    by_cases g3 : (4000 : Int) < (cc : Int)
    case pos =>
      first
        | (exfalso; omega)
        | (have HF : Hid (v = true):=Lib.hid (by rw [HW.out]; have:=H0.out; unfold zaY; simp; omega)
           go_wp2_with fail
           go_ret
           exact ⟨zad HF.out.symm,B9⟩)
    first
      | (exfalso; omega)
      | (have HF : Hid (v = false):=Lib.hid (by rw [HW.out]; have:=H0.out; unfold zaY; simp; omega)
         go_wp2_with fail
         go_ret
         exact ⟨zad HF.out.symm,B9⟩)
  have HE : Hid (cc = 0 + sumS I 70):=Lib.hid (by
    have hl:=hI.1
    rw [HC.out,sum_all (L:=I) (by omega) (show I.length ≤ 70 by omega)])
  have H4 : ¬ (j : Int) < (ni : Int):=by omega
  clear HC
  go_wp2_with fail
  obtain ⟨cc0,hcc0⟩ : ∃ x,cc = x:=⟨_,rfl⟩
  rw [hcc0] at H7 ⊢
  have H6 : Hid (cc0 = sumS I 70):=Lib.hid (by have:=HE.out; omega)
  clear hcc0
  obtain ⟨w7,rfl⟩ : ∃ x,x = wr:=⟨_,rfl⟩
  have Ha : cc0 ≤ 19703248369172480:=by
    have:=sum_le I 140737488351232 H9.out 70
    have:=H6.out
    omega
  replace hO:=hO.on BR
  replace z0:=z0.on BR
  have B8:=Below.step BW BR
  clear BR H3 HE
  go_loopw [5,7] (fun c i wr => ∃ j cc : Nat,j ≤ no ∧ j ≤ 70 ∧ i = .int .i64 j ∧ c = .int .i64 cc ∧ cc = cc0 + sumS O j ∧ Below w7.heap.size w7 wr) (fun _ i _ => no - (intOf i).toNat)
  case atStart => exact ⟨0,cc0,Nat.zero_le _,Nat.zero_le _,rfl,rfl,by simp [sumS],Below.refl _ _⟩
  obtain ⟨j,cc,hj,hj7,rfl,rfl,hcc,BR⟩:=hrel
  have HC:=Lib.hid hcc
  have H7 : cc ≤ cc0 + j * 281474976702464:=by
    have:=sum_le O 140737488351232 H8.out j
    omega
  clear hcc
  have H3:=(z0.on BR).2 2 _ rfl
  by_cases hlt : j < no
  · by_cases h70 : j < 70
    · obtain ⟨b0,off,nm,A',m,c',bs,eA,hbw,HX,k1,k2,hi⟩:=(hO.on BR).at0 hlt
      subst eA
      obtain ⟨sz,hsz⟩ : ∃ sz,nm.size = sz:=⟨_,rfl⟩
      have HS:=Lib.hid (zdM HX.out)
      have HM:=Lib.hid (H8.out _ (List.mem_of_getElem? HX.out))
      have hm : m ≤ 140737488351232:=by rw [← hi.1]; exact HM.out.1
      have hs : sz ≤ 140737488351232:=by rw [← hsz]; exact HM.out.2
      have HMb:=Lib.hid hi.1
      have HZ:=Lib.hid hsz
      obtain ⟨q,hq⟩ : ∃ q,m + sz = q:=⟨_,rfl⟩
      obtain ⟨t,ht⟩ : ∃ t,cc + q = t:=⟨_,rfl⟩
      have HT : Hid (t = cc0 + sumS O (j + 1)):=Lib.hid (by rw [HS.out,← ht,HC.out,← hq,← hsz,← hi.1]; show cc0 + sumS O j + (bs.length + nm.size) = cc0 + (sumS O j + (bs.length + nm.size)); omega)
      have e1 : (m : Int) + (sz : Int) = (q : Int):=by omega
      have e2 : (cc : Int) + (q : Int) = (t : Int):=by omega
      have H4 : (j : Int) < (no : Int):=by omega
      have hj0 : (0 : Int) ≤ (j : Int):=by omega
      have H2 : (j : Int) < 70:=by omega
      have hqb : q ≤ 281474976702464:=by omega
      have htb : t ≤ 60000000000000000:=by omega
      clear hi HS HM HC hq ht
      go_wp2_with fail
      go_region
      go_wp2_with fail
      go_roundw
      case rel => exact ⟨j + 1,t,by omega,by omega,by go_num,rfl,HT.out,BR.drew⟩
      case measure => simp [intOf]; omega
    have HE : Hid (cc = cc0 + sumS O 70):=Lib.hid (by rw [HC.out,show j = 70 by omega])
    have H4 : (j : Int) < (no : Int):=by omega
    have H2 : ¬ (j : Int) < 70:=by omega
    clear HC
    have H5:=(z0.on BR).2 0 _ rfl
    have H1:=(z0.on BR).2 1 _ rfl
    have B9:=Below.step B8 BR
    have HW : Hid (v = zaY nn ni no I O M):=Lib.hid HV.out.symm
    have H0 : Hid (cc = sumS I 70 + sumS O 70):=Lib.hid (by rw [HE.out,H6.out])
    by_cases g0 : (M : Int) < (nn : Int)
    case pos =>
      first
        | (exfalso; omega)
        | (have HF : Hid (v = true):=Lib.hid (by rw [HW.out]; have:=H0.out; unfold zaY; simp; omega)
           go_wp2_with fail
           go_ret
           exact ⟨zad HF.out.symm,B9⟩)
    by_cases g1 : (66 : Int) < (ni : Int)
    case pos =>
      first
        | (exfalso; omega)
        | (have HF : Hid (v = true):=Lib.hid (by rw [HW.out]; have:=H0.out; unfold zaY; simp; omega)
           go_wp2_with fail
           go_ret
           exact ⟨zad HF.out.symm,B9⟩)
    by_cases g2 : (66 : Int) < (no : Int)
    case pos =>
      first
        | (exfalso; omega)
        | (have HF : Hid (v = true):=Lib.hid (by rw [HW.out]; have:=H0.out; unfold zaY; simp; omega)
           go_wp2_with fail
           go_ret
           exact ⟨zad HF.out.symm,B9⟩)
    by_cases g3 : (4000 : Int) < (cc : Int)
    case pos =>
      first
        | (exfalso; omega)
        | (have HF : Hid (v = true):=Lib.hid (by rw [HW.out]; have:=H0.out; unfold zaY; simp; omega)
           go_wp2_with fail
           go_ret
           exact ⟨zad HF.out.symm,B9⟩)
    first
      | (exfalso; omega)
      | (have HF : Hid (v = false):=Lib.hid (by rw [HW.out]; have:=H0.out; unfold zaY; simp; omega)
         go_wp2_with fail
         go_ret
         exact ⟨zad HF.out.symm,B9⟩)
  have HE : Hid (cc = cc0 + sumS O 70):=Lib.hid (by
    have hl:=hO.1
    rw [HC.out,sum_all (L:=O) (by omega) (show O.length ≤ 70 by omega)])
  have H4 : ¬ (j : Int) < (no : Int):=by omega
  clear HC
  have H5:=(z0.on BR).2 0 _ rfl
  have H1:=(z0.on BR).2 1 _ rfl
  have B9:=Below.step B8 BR
  have HW : Hid (v = zaY nn ni no I O M):=Lib.hid HV.out.symm
  have H0 : Hid (cc = sumS I 70 + sumS O 70):=Lib.hid (by rw [HE.out,H6.out])
  by_cases g0 : (M : Int) < (nn : Int)
  case pos =>
    first
      | (exfalso; omega)
      | (have HF : Hid (v = true):=Lib.hid (by rw [HW.out]; have:=H0.out; unfold zaY; simp; omega)
         go_wp2_with fail
         go_ret
         exact ⟨zad HF.out.symm,B9⟩)
  by_cases g1 : (66 : Int) < (ni : Int)
  case pos =>
    first
      | (exfalso; omega)
      | (have HF : Hid (v = true):=Lib.hid (by rw [HW.out]; have:=H0.out; unfold zaY; simp; omega)
         go_wp2_with fail
         go_ret
         exact ⟨zad HF.out.symm,B9⟩)
  by_cases g2 : (66 : Int) < (no : Int)
  case pos =>
    first
      | (exfalso; omega)
      | (have HF : Hid (v = true):=Lib.hid (by rw [HW.out]; have:=H0.out; unfold zaY; simp; omega)
         go_wp2_with fail
         go_ret
         exact ⟨zad HF.out.symm,B9⟩)
  by_cases g3 : (4000 : Int) < (cc : Int)
  case pos =>
    first
      | (exfalso; omega)
      | (have HF : Hid (v = true):=Lib.hid (by rw [HW.out]; have:=H0.out; unfold zaY; simp; omega)
         go_wp2_with fail
         go_ret
         exact ⟨zad HF.out.symm,B9⟩)
  first
    | (exfalso; omega)
    | (have HF : Hid (v = false):=Lib.hid (by rw [HW.out]; have:=H0.out; unfold zaY; simp; omega)
       go_wp2_with fail
       go_ret
       exact ⟨zad HF.out.symm,B9⟩)
set_option maxRecDepth 4000
def okR (s : ByteArray) (j : Nat) : Bool:=zaO (byS s j) || (zbB (byS s j) && decide (0 < j))
theorem okR_all (s : ByteArray) (h : 0 < s.size) : (List.range s.size).all (okR s) = (zaO (byS s 0) && (List.range s.size).all (okS s)):=by
 rw [Bool.eq_iff_iff,Bool.and_eq_true,List.all_eq_true,List.all_eq_true]
 constructor
 ·intro h1
  refine ⟨by simpa [okR] using h1 0 (List.mem_range.2 h),fun j hj => ?_⟩
  have:=h1 j hj
  unfold okR at this
  unfold okS
  simp only [Bool.or_eq_true,Bool.and_eq_true] at this ⊢
  exact this.imp id And.left
 rintro ⟨h0,h1⟩ j hj
 have:=h1 j hj
 unfold okS at this
 unfold okR
 cases j with
 | zero => simp [h0]
 | succ j => simp only [Bool.or_eq_true,Bool.and_eq_true] at this ⊢; exact this.imp id fun h => ⟨h,by simp⟩
theorem nameS_is (s : ByteArray) : zbm s = (!resS s && ((List.range s.size).all (okR s) && (decide (0 < s.size) && decide (s.size ≤ 20)))):=by
 unfold zbm
 by_cases h : 0 < s.size
 ·rw [okR_all s h]
  cases resS s <;> cases zaO (byS s 0) <;> cases (List.range s.size).all (okS s) <;> simp
 rw [decide_eq_false h]
 simp
theorem zaH {s : ByteArray} (h : resS s = true ∨ (List.range s.size).all (okR s) = false) : zbm s = false:=by
 rw [nameS_is]
 rcases h with h | h <;> simp [h]
set_option maxHeartbeats 8000000 in
set_option maxRecDepth 10000 in
theorem rname_as (s : ByteArray) (v : Bool) (hv : zbm s = v) (hs : s.size ≤ 1000000) (w : World) : Calls Try.prog 82 #[.string s] w fun e w' => e = .returned (.bool v) ∧ Below w.heap.size w w':=by
 have HV:=Lib.hid hv
 clear hv
 go_enter Try.func82,Try.ntmps82
 by_cases e0 : (s.toList == [109,111,100,117,108,101]) = true
 ·have HR : Hid (resS s = true):=Lib.hid (by unfold resS; rw [e0]; simp)
  go_wp2_with fail
  go_ret
  exact ⟨zad (by rw [← HV.out,zaH (.inl HR.out)]),Below.refl _ _⟩
 replace e0 : (s.toList == [109,111,100,117,108,101]) = false:=by simpa using e0
 by_cases e1 : (s.toList == [101,110,100,109,111,100,117,108,101]) = true
 ·have HR : Hid (resS s = true):=Lib.hid (by unfold resS; rw [e1]; simp)
  go_wp2_with fail
  go_ret
  exact ⟨zad (by rw [← HV.out,zaH (.inl HR.out)]),Below.refl _ _⟩
 replace e1 : (s.toList == [101,110,100,109,111,100,117,108,101]) = false:=by simpa using e1
 by_cases e2 : (s.toList == [105,110,112,117,116]) = true
 ·have HR : Hid (resS s = true):=Lib.hid (by unfold resS; rw [e2]; simp)
  go_wp2_with fail
  go_ret
  exact ⟨zad (by rw [← HV.out,zaH (.inl HR.out)]),Below.refl _ _⟩
 replace e2 : (s.toList == [105,110,112,117,116]) = false:=by simpa using e2
 by_cases e3 : (s.toList == [111,117,116,112,117,116]) = true
 ·have HR : Hid (resS s = true):=Lib.hid (by unfold resS; rw [e3]; simp)
  go_wp2_with fail
  go_ret
  exact ⟨zad (by rw [← HV.out,zaH (.inl HR.out)]),Below.refl _ _⟩
 replace e3 : (s.toList == [111,117,116,112,117,116]) = false:=by simpa using e3
 by_cases e4 : (s.toList == [119,105,114,101]) = true
 ·have HR : Hid (resS s = true):=Lib.hid (by unfold resS; rw [e4]; simp)
  go_wp2_with fail
  go_ret
  exact ⟨zad (by rw [← HV.out,zaH (.inl HR.out)]),Below.refl _ _⟩
 replace e4 : (s.toList == [119,105,114,101]) = false:=by simpa using e4
 by_cases e5 : (s.toList == [97,115,115,105,103,110]) = true
 ·have HR : Hid (resS s = true):=Lib.hid (by unfold resS; rw [e5]; simp)
  go_wp2_with fail
  go_ret
  exact ⟨zad (by rw [← HV.out,zaH (.inl HR.out)]),Below.refl _ _⟩
 replace e5 : (s.toList == [97,115,115,105,103,110]) = false:=by simpa using e5
 by_cases e6 : (s.toList == [99,108,107]) = true
 ·have HR : Hid (resS s = true):=Lib.hid (by unfold resS; rw [e6]; simp)
  go_wp2_with fail
  go_ret
  exact ⟨zad (by rw [← HV.out,zaH (.inl HR.out)]),Below.refl _ _⟩
 replace e6 : (s.toList == [99,108,107]) = false:=by simpa using e6
 by_cases e7 : (s.toList == [114,115,116]) = true
 ·have HR : Hid (resS s = true):=Lib.hid (by unfold resS; rw [e7]; simp)
  go_wp2_with fail
  go_ret
  exact ⟨zad (by rw [← HV.out,zaH (.inl HR.out)]),Below.refl _ _⟩
 replace e7 : (s.toList == [114,115,116]) = false:=by simpa using e7
 have HR : Hid (resS s = false):=Lib.hid (by unfold resS; rw [e0,e1,e2,e3,e4,e5,e6,e7]; rfl)
 go_wp2_with fail
 clear e0 e1 e2 e3 e4 e5 e6 e7
 go_loopw [3] (fun i wr => ∃ j : Nat,j ≤ s.size ∧ i = .int .i64 j ∧ (List.range j).all (okR s) = true ∧ Below w.heap.size w wr) (fun i _ => s.size - (intOf i).toNat)
 case atStart => exact ⟨0,Nat.zero_le _,rfl,rfl,Below.refl _ _⟩
 obtain ⟨j,hj,rfl,ha,BW⟩:=hrel
 have HA:=Lib.hid ha
 clear ha
 by_cases hlt : j < s.size
 ·have hjn : (j : Int) < (s.size : Int):=by omega
  have hj0 : (0 : Int) ≤ (j : Int):=by omega
  have HB:=Lib.hid (byS_at hlt)
  have hx : (0 : Int) ≤ (s[j].toNat : Int):=by omega
  by_cases r : (s[j].toNat : Int) < 48
  case pos =>
   have f1 : decide (97 ≤ (s[j].toNat : Int)) = false:=decide_eq_false (by omega)
   have f2 : decide ((s[j].toNat : Int) ≤ 122) = true:=decide_eq_true (by omega)
   have f3 : ((s[j].toNat : Int) == 95) = false:=zae (by omega)
   have f4 : decide (48 ≤ (s[j].toNat : Int)) = false:=decide_eq_false (by omega)
   have f5 : decide ((s[j].toNat : Int) ≤ 57) = true:=decide_eq_true (by omega)
   have HL : Hid (zaO (byS s j) = (true && false && true)):=Lib.hid (by unfold zaO; rw [HB.out,f1,f2]; rfl)
   have HO : Hid (zbB (byS s j) = (false && true || false)):=Lib.hid (by unfold zbB zcD; rw [HB.out,f4,f5,f3])
   have HK : Hid (okR s j = false):=Lib.hid (by unfold okR; rw [HL.out,HO.out]; rfl)
   have HF:=Lib.hid (zaH (.inr (za7 hlt HK.out)))
   go_wp2_with fail
   go_ret
   exact ⟨zad (by rw [← HV.out,HF.out]),BW⟩
  by_cases r : (s[j].toNat : Int) ≤ 57
  case pos =>
   have f1 : decide (97 ≤ (s[j].toNat : Int)) = false:=decide_eq_false (by omega)
   have f2 : decide ((s[j].toNat : Int) ≤ 122) = true:=decide_eq_true (by omega)
   have f3 : ((s[j].toNat : Int) == 95) = false:=zae (by omega)
   have f4 : decide (48 ≤ (s[j].toNat : Int)) = true:=decide_eq_true (by omega)
   have f5 : decide ((s[j].toNat : Int) ≤ 57) = true:=decide_eq_true (by omega)
   have HL : Hid (zaO (byS s j) = (true && false && true)):=Lib.hid (by unfold zaO; rw [HB.out,f1,f2]; rfl)
   have HO : Hid (zbB (byS s j) = (true && true || false)):=Lib.hid (by unfold zbB zcD; rw [HB.out,f4,f5,f3])
   by_cases z : 0 < j
   ·have z1 : decide (0 < j) = true:=decide_eq_true z
    have z2 : decide ((0 : Int) < (j : Int)) = true:=decide_eq_true (by omega)
    have HK : Hid (okR s j = true):=Lib.hid (by unfold okR; rw [HL.out,HO.out,z1]; rfl)
    have HT:=Lib.hid (zbq HA.out HK.out)
    go_wp2_with fail
    go_roundw
    case rel => exact ⟨j + 1,by omega,by go_num,HT.out,BW⟩
    case measure => simp [intOf]; omega
   have z1 : decide (0 < j) = false:=decide_eq_false z
   have z2 : decide ((0 : Int) < (j : Int)) = false:=decide_eq_false (by omega)
   have HK : Hid (okR s j = false):=Lib.hid (by unfold okR; rw [HL.out,HO.out,z1]; rfl)
   have HF:=Lib.hid (zaH (.inr (za7 hlt HK.out)))
   go_wp2_with fail
   go_ret
   exact ⟨zad (by rw [← HV.out,HF.out]),BW⟩
  by_cases r : (s[j].toNat : Int) < 95
  case pos =>
   have f1 : decide (97 ≤ (s[j].toNat : Int)) = false:=decide_eq_false (by omega)
   have f2 : decide ((s[j].toNat : Int) ≤ 122) = true:=decide_eq_true (by omega)
   have f3 : ((s[j].toNat : Int) == 95) = false:=zae (by omega)
   have f4 : decide (48 ≤ (s[j].toNat : Int)) = true:=decide_eq_true (by omega)
   have f5 : decide ((s[j].toNat : Int) ≤ 57) = false:=decide_eq_false (by omega)
   have HL : Hid (zaO (byS s j) = (true && false && true)):=Lib.hid (by unfold zaO; rw [HB.out,f1,f2]; rfl)
   have HO : Hid (zbB (byS s j) = (true && false || false)):=Lib.hid (by unfold zbB zcD; rw [HB.out,f4,f5,f3])
   have HK : Hid (okR s j = false):=Lib.hid (by unfold okR; rw [HL.out,HO.out]; rfl)
   have HF:=Lib.hid (zaH (.inr (za7 hlt HK.out)))
   go_wp2_with fail
   go_ret
   exact ⟨zad (by rw [← HV.out,HF.out]),BW⟩
  by_cases r : (s[j].toNat : Int) = 95
  case pos =>
   have f1 : decide (97 ≤ (s[j].toNat : Int)) = false:=decide_eq_false (by omega)
   have f2 : decide ((s[j].toNat : Int) ≤ 122) = true:=decide_eq_true (by omega)
   have f3 : ((s[j].toNat : Int) == 95) = true:=zav (by omega)
   have f4 : decide (48 ≤ (s[j].toNat : Int)) = true:=decide_eq_true (by omega)
   have f5 : decide ((s[j].toNat : Int) ≤ 57) = false:=decide_eq_false (by omega)
   have HL : Hid (zaO (byS s j) = (true && false && true)):=Lib.hid (by unfold zaO; rw [HB.out,f1,f2]; rfl)
   have HO : Hid (zbB (byS s j) = (true && false || true)):=Lib.hid (by unfold zbB zcD; rw [HB.out,f4,f5,f3])
   by_cases z : 0 < j
   ·have z1 : decide (0 < j) = true:=decide_eq_true z
    have z2 : decide ((0 : Int) < (j : Int)) = true:=decide_eq_true (by omega)
    have HK : Hid (okR s j = true):=Lib.hid (by unfold okR; rw [HL.out,HO.out,z1]; rfl)
    have HT:=Lib.hid (zbq HA.out HK.out)
    go_wp2_with fail
    go_roundw
    case rel => exact ⟨j + 1,by omega,by go_num,HT.out,BW⟩
    case measure => simp [intOf]; omega
   have z1 : decide (0 < j) = false:=decide_eq_false z
   have z2 : decide ((0 : Int) < (j : Int)) = false:=decide_eq_false (by omega)
   have HK : Hid (okR s j = false):=Lib.hid (by unfold okR; rw [HL.out,HO.out,z1]; rfl)
   have HF:=Lib.hid (zaH (.inr (za7 hlt HK.out)))
   go_wp2_with fail
   go_ret
   exact ⟨zad (by rw [← HV.out,HF.out]),BW⟩
  by_cases r : (s[j].toNat : Int) = 96
  case pos =>
   have f1 : decide (97 ≤ (s[j].toNat : Int)) = false:=decide_eq_false (by omega)
   have f2 : decide ((s[j].toNat : Int) ≤ 122) = true:=decide_eq_true (by omega)
   have f3 : ((s[j].toNat : Int) == 95) = false:=zae (by omega)
   have f4 : decide (48 ≤ (s[j].toNat : Int)) = true:=decide_eq_true (by omega)
   have f5 : decide ((s[j].toNat : Int) ≤ 57) = false:=decide_eq_false (by omega)
   have HL : Hid (zaO (byS s j) = (true && false && true)):=Lib.hid (by unfold zaO; rw [HB.out,f1,f2]; rfl)
   have HO : Hid (zbB (byS s j) = (true && false || false)):=Lib.hid (by unfold zbB zcD; rw [HB.out,f4,f5,f3])
   have HK : Hid (okR s j = false):=Lib.hid (by unfold okR; rw [HL.out,HO.out]; rfl)
   have HF:=Lib.hid (zaH (.inr (za7 hlt HK.out)))
   go_wp2_with fail
   go_ret
   exact ⟨zad (by rw [← HV.out,HF.out]),BW⟩
  by_cases r : (s[j].toNat : Int) ≤ 122
  case pos =>
   have f1 : decide (97 ≤ (s[j].toNat : Int)) = true:=decide_eq_true (by omega)
   have f2 : decide ((s[j].toNat : Int) ≤ 122) = true:=decide_eq_true (by omega)
   have f3 : ((s[j].toNat : Int) == 95) = false:=zae (by omega)
   have f4 : decide (48 ≤ (s[j].toNat : Int)) = true:=decide_eq_true (by omega)
   have f5 : decide ((s[j].toNat : Int) ≤ 57) = false:=decide_eq_false (by omega)
   have HL : Hid (zaO (byS s j) = (true && true && true)):=Lib.hid (by unfold zaO; rw [HB.out,f1,f2]; rfl)
   have HO : Hid (zbB (byS s j) = (true && false || false)):=Lib.hid (by unfold zbB zcD; rw [HB.out,f4,f5,f3])
   have HK : Hid (okR s j = true):=Lib.hid (by unfold okR; rw [HL.out]; rfl)
   have HT:=Lib.hid (zbq HA.out HK.out)
   go_wp2_with fail
   go_roundw
   case rel => exact ⟨j + 1,by omega,by go_num,HT.out,BW⟩
   case measure => simp [intOf]; omega
  have f1 : decide (97 ≤ (s[j].toNat : Int)) = true:=decide_eq_true (by omega)
  have f2 : decide ((s[j].toNat : Int) ≤ 122) = false:=decide_eq_false (by omega)
  have f3 : ((s[j].toNat : Int) == 95) = false:=zae (by omega)
  have f4 : decide (48 ≤ (s[j].toNat : Int)) = true:=decide_eq_true (by omega)
  have f5 : decide ((s[j].toNat : Int) ≤ 57) = false:=decide_eq_false (by omega)
  have HL : Hid (zaO (byS s j) = (true && true && false)):=Lib.hid (by unfold zaO; rw [HB.out,f1,f2]; rfl)
  have HO : Hid (zbB (byS s j) = (true && false || false)):=Lib.hid (by unfold zbB zcD; rw [HB.out,f4,f5,f3])
  have HK : Hid (okR s j = false):=Lib.hid (by unfold okR; rw [HL.out,HO.out]; rfl)
  have HF:=Lib.hid (zaH (.inr (za7 hlt HK.out)))
  go_wp2_with fail
  go_ret
  exact ⟨zad (by rw [← HV.out,HF.out]),BW⟩
 obtain rfl : j = s.size:=by omega
 have HN : Hid (v = (decide (0 < s.size) && decide (s.size ≤ 20))):=Lib.hid (by rw [← HV.out,nameS_is,HR.out,HA.out]; rfl)
 by_cases h1 : 1 ≤ s.size
 ·have g1 : decide ((1 : Int) ≤ (s.size : Int)) = true:=decide_eq_true (by omega)
  by_cases h2 : s.size ≤ 20
  ·have g2 : decide ((s.size : Int) ≤ 20) = true:=decide_eq_true (by omega)
   have HE : Hid (v = true):=Lib.hid (by rw [HN.out]; simp; omega)
   go_wp2_with fail
   go_ret
   exact ⟨zad HE.out.symm,BW⟩
  have g2 : decide ((s.size : Int) ≤ 20) = false:=decide_eq_false (by omega)
  have HE : Hid (v = false):=Lib.hid (by rw [HN.out]; simp; omega)
  go_wp2_with fail
  go_ret
  exact ⟨zad HE.out.symm,BW⟩
 have g1 : decide ((1 : Int) ≤ (s.size : Int)) = false:=decide_eq_false (by omega)
 have HE : Hid (v = false):=Lib.hid (by rw [HN.out]; simp; omega)
 go_wp2_with fail
 go_ret
 exact ⟨zad HE.out.symm,BW⟩
end Go.Proofs.Ytcehklnonhalhaa
