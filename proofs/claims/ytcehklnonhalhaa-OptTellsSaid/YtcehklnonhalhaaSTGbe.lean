/-
  What the proofs of OptTells need: Gbe.
-/
import Derived.Test.YtcehklnonhalhaaSTGbb
import Derived.Test.YtcehklnonhalhaaSTGbd
import Derived.Test.YtcehklnonhalhaaSTGk
set_option linter.unusedVariables false
namespace Go.Proofs.Ytcehklnonhalhaa
open Go.RowKit
set_option maxRecDepth 4000
theorem zeM {N : List Nd} {I O : List Pt} {d : Option (List Nat)} {e v : Int} (hl : zaB N I O = (d,e)) (h : zaU N I O = v) (hv : v ≠ 0) : d = none ∧ e = v:=by
 unfold zaB at hl
 rw [h,if_pos hv] at hl
 simp only [Prod.mk.injEq] at hl
 exact ⟨hl.1.symm,hl.2.symm⟩
theorem lv_good {N : List Nd} {I O : List Pt} {d : Option (List Nat)} {e : Int} (hl : zaB N I O = (d,e)) (h : zaU N I O = 0) : (∀ x,levS N = some x → d = some x ∧ e = 0) ∧ (levS N = none → d = none ∧ e = 9):=by
 unfold zaB at hl
 rw [h,if_neg (by simp)] at hl
 constructor
 ·intro x hx
  rw [hx] at hl
  simp only [Prod.mk.injEq] at hl
  exact ⟨hl.1.symm,hl.2.symm⟩
 intro hx
 rw [hx] at hl
 simp only [Prod.mk.injEq] at hl
 exact ⟨hl.1.symm,hl.2.symm⟩
section
variable {N : List Nd} {I O : List Pt}
theorem wr4 (h : 64 < I.length + O.length) : zaU N I O = 4:=if_pos h
theorem wr2 (h : ¬ 64 < I.length + O.length) (h2 : (N.all (zaf N.length) && (I ++ O).all (zaM N.length)) = false) : zaU N I O = 2:=by
 unfold zaU
 rw [if_neg h,h2]
 rfl
theorem wr7 (h : ¬ 64 < I.length + O.length) (h2 : (N.all (zaf N.length) && (I ++ O).all (zaM N.length)) = true) (h3 : (I ++ O).all (fun p => zbm p.name) = false) : zaU N I O = 7:=by
 unfold zaU
 rw [if_neg h,h2,h3]
 rfl
theorem wr8 (h : ¬ 64 < I.length + O.length) (h2 : (N.all (zaf N.length) && (I ++ O).all (zaM N.length)) = true) (h3 : (I ++ O).all (fun p => zbm p.name) = true) (h4 : dupS (I ++ O) = true) : zaU N I O = 8:=by
 unfold zaU
 rw [if_neg h,h2,h3,h4]
 rfl
theorem wr10 (h : ¬ 64 < I.length + O.length) (h2 : (N.all (zaf N.length) && (I ++ O).all (zaM N.length)) = true) (h3 : (I ++ O).all (fun p => zbm p.name) = true) (h4 : dupS (I ++ O) = false) (h5 : fedS N I = false) : zaU N I O = 10:=by
 unfold zaU
 rw [if_neg h,h2,h3,h4,h5]
 rfl
theorem wr0 (h : ¬ 64 < I.length + O.length) (h2 : (N.all (zaf N.length) && (I ++ O).all (zaM N.length)) = true) (h3 : (I ++ O).all (fun p => zbm p.name) = true) (h4 : dupS (I ++ O) = false) (h5 : fedS N I = true) : zaU N I O = 0:=by
 unfold zaU
 rw [if_neg h,h2,h3,h4,h5]
 rfl
end
set_option maxRecDepth 20000 in
set_option maxHeartbeats 8000000 in
theorem zcJ {An Ai Ao : Option Addr} {nn cn ni ci no co : Nat} {N : List Nd} {I O : List Pt} {w : World} (h : Nt w An nn cn Ai ni ci Ao no co N I O) (hnm : ∀ p ∈ I ++ O,p.name.size ≤ 1000000) (hc : ∀ k : Nat,(zah (I.take k)).length ≤ 1000000) {d : Option (List Nat)} {e : Int} (hl : zaB N I O = (d,e)) :
  Calls Try.prog 58 #[.agg #[.slice An nn cn,.slice Ai ni ci,.slice Ao no co]] w (LvX w d e):=by
 have HL:=Lib.hid hl
 have HNM:=Lib.hid hnm
 have HC:=Lib.hid hc
 have hs1 : ni + no ≤ 1000:=h.hs
 have hn1 : nn ≤ 100000:=h.hn
 have Hb:=Lib.hid h.n.1
 clear hl hnm hc
 go_enter Try.func58,Try.ntmps58
 go_upto_region 1 with fail
 obtain ⟨w1,e_w1,z0,BW⟩:=zmB w [.slice An nn cn,.slice Ai ni ci,.slice Ao no co] 25
 rw [e_w1]
 clear e_w1
 replace h:=h.on BW
 obtain ⟨RI,PRI,FRI⟩:=h.i.raw
 obtain ⟨RO,PRO,FRO⟩:=h.o.raw
 obtain ⟨w2,e_w2⟩ : ∃ w',w1.alloc (.cells #[] 41) = w':=⟨_,rfl⟩
 have b2 : Below w1.heap.size w1 w2:=e_w2 ▸ zaa _ _
 have hrow : w2.ownsRow w1.heap.size 41 2 (.slice (some ⟨w1.heap.size,0,none⟩) 0 0) 0 []:=e_w2 ▸ World.ownsRow_lit w1 #[] 0 (Nat.le_refl _) (by unfold maxLen; omega) rfl
 have H7:=z0.2 1 _ rfl
 have H6:=z0.2 2 _ rfl
 have y1:=(z0.on b2).2 1 _ rfl
 have y2:=(z0.on b2).2 2 _ rfl
 have H1 : w2.drew.ownsRow w1.heap.size 41 2 (.slice (some ⟨w1.heap.size,0,none⟩) 0 0) 0 []:=hrow
 have b1 : Below w1.heap.size w1 w2.drew:=b2.drew
 have hq : 0 + ni + no ≤ 1000000:=by omega
 go_cut [4] (AllP w1 (ni + no) (I ++ O))
 case first =>
  go_region_law (first
   | (refine zdN (A:=Ai) (m:=ni) (c:=ci) rfl _ _ 23 rfl zbW (by omega) (by omega) w1.heap.size _ 0 [] rfl H1 (RI.flatMap ptC) rfl h.si.none_ (by rw [zas ptC 2 zaL,PRI.1]) (PRI.on b1).cells (zef _) (by omega) b1.size ?_; intro v2 w3 hrow3 hg3; have B3:=za5 H1 b1 (Nat.le_refl _) hg3; have y3:=(z0.on B3).2 2 _ rfl)
   | (refine zdN (A:=Ao) (m:=no) (c:=co) rfl _ _ 23 rfl zbW (by omega) (by omega) w1.heap.size _ _ _ rfl hrow3 (RO.flatMap ptC) rfl h.so.none_ (by rw [zas ptC 2 zaL,PRO.1]) (PRO.on B3).cells (zef _) (by omega) B3.size ?_; intro v4 w4 hrow4 hg4; have B4:=za5 hrow3 B3 (Nat.le_refl _) hg4))
  all_goals rw [show ([] : List Value) ++ RI.flatMap ptC ++ RO.flatMap ptC = (RI ++ RO).flatMap ptC by rw [List.nil_append,List.flatMap_append],Nat.zero_add] at hrow4
  all_goals obtain ⟨A4,c4,rfl,sw4,_,hp4⟩:=row_ps hrow4
  all_goals have hpp:=hp4.ps ((FRI.on B4).append (FRO.on B4))
  all_goals clear hrow H1 hrow3 hrow4 FRI FRO PRI PRO h
  all_goals go_wp2_with fail
  all_goals go_meet
  all_goals exact ⟨A4,c4,rfl,hpp,sw4,B4⟩
 obtain ⟨A4,c4,rfl,hP,sw4,B4⟩:=hcut
 clear hrow H1 FRI FRO PRI PRO H7 H6 y1 y2 b1 b2 e_w2
 obtain ⟨w5,rfl⟩ : ∃ x,x = wc:=⟨_,rfl⟩
 replace h:=h.on B4
 replace z0:=z0.on B4
 replace BW:=Below.step BW B4
 obtain ⟨q,hq2⟩ : ∃ q,ni + no = q:=⟨_,rfl⟩
 rw [hq2] at hP ⊢
 have Hc:=Lib.hid hP.1
 have HIO : Hid (I.length + O.length = q):=Lib.hid (by rw [h.i.1,h.o.1]; exact hq2)
 have hq1 : q ≤ 100000:=by omega
 clear B4 hq hq2
 obtain ⟨H8,H7,H6⟩:=z0.zb3
 have e0 : decide (262144 < (nn : Int)) = false:=by simp; omega
 by_cases h64 : 64 < q
 ·have e1 : decide (64 < (q : Int)) = true:=by simp; omega
  have HE : Hid (d = none ∧ e = 4):=Lib.hid (zeM HL.out (wr4 (by rw [HIO.out]; exact h64)) (by omega))
  obtain ⟨rfl,rfl⟩:=HE.out
  go_wp2_with fail
  refine bodyPost_ret (v:=.tuple #[.slice none 0 0,.int .i64 4]) (by simp [results,Try.results58,go_sem]) rfl ?_
  exact ⟨_,_,_,rfl,Is.nil_,Nat.le_refl _,BW⟩
 have e1 : decide (64 < (q : Int)) = false:=by simp; omega
 have Ha : Hid (¬ 64 < I.length + O.length):=Lib.hid (by rw [HIO.out]; exact h64)
 clear h64
 obtain ⟨v,hv⟩ : ∃ v,(N.all (zaf nn) && (I ++ O).all (zaM nn)) = v:=⟨_,rfl⟩
 have HV:=Lib.hid hv
 go_wp2_with fail
 refine (rformed_as h v hv).mono ?_
 rintro en w6 ⟨rfl,b⟩
 replace h:=h.on b
 replace z0:=z0.on b
 replace hP:=hP.on b
 replace BW:=Below.step BW b
 clear b hv H8 H7 H6 e0 e1
 cases v
 ·have HE : Hid (d = none ∧ e = 2):=Lib.hid (zeM HL.out (wr2 Ha.out (by have:=HV.out; rw [← Hb.out] at this; exact this)) (by omega))
  obtain ⟨rfl,rfl⟩:=HE.out
  go_wp2_with fail
  refine bodyPost_ret (v:=.tuple #[.slice none 0 0,.int .i64 2]) (by simp [results,Try.results58,go_sem]) rfl ?_
  exact ⟨_,_,_,rfl,Is.nil_,Nat.le_refl _,BW⟩
 have H2 : Hid ((N.all (zaf N.length) && (I ++ O).all (zaM N.length)) = true):=Lib.hid (by have:=HV.out; rw [← Hb.out] at this; exact this)
 have HF : Hid (N.all (zaf nn) = true):=Lib.hid (Bool.and_eq_true_iff.1 HV.out).1
 clear HV
 go_wp2_with fail
 go_loopw [5] (fun i wr => ∃ j : Nat,j ≤ q ∧ i = .int .i64 j ∧ ((I ++ O).take j).all (fun p => zbm p.name) = true ∧ Below w6.heap.size w6 wr) (fun i _ => q - (intOf i).toNat)
 case atStart => exact ⟨0,Nat.zero_le _,rfl,rfl,Below.refl _ _⟩
 obtain ⟨j,hj,rfl,ha,BR⟩:=hrel
 have HA:=Lib.hid ha
 clear ha
 by_cases hlt : j < q
 ·obtain ⟨b0,off,nm,A',m,c',bs,eA,hbw,HX,k1,k2,hi⟩:=(hP.on BR).at0 hlt
  have H9 : (j : Int) < (q : Int):=by omega
  have hj0 : (0 : Int) ≤ (j : Int):=by omega
  have hsz : nm.size ≤ 1000000:=HNM.out _ (List.mem_of_getElem? HX.out)
  obtain ⟨u,hu⟩ : ∃ u,zbm nm = u:=⟨_,rfl⟩
  have HU:=Lib.hid hu
  clear hu k2 hi
  subst eA
  go_wp2_with fail
  refine (rname_as nm u HU.out hsz _).mono ?_
  rintro en w7 ⟨rfl,b⟩
  replace BR:=Below.step BR b
  clear b k1 hbw
  cases u
  ·have HE : Hid (d = none ∧ e = 7):=Lib.hid (zeM HL.out (wr7 Ha.out H2.out (zbC HX.out HU.out)) (by omega))
   obtain ⟨rfl,rfl⟩:=HE.out
   go_wp2_with fail
   refine bodyPost_ret (v:=.tuple #[.slice none 0 0,.int .i64 7]) (by simp [results,Try.results58,go_sem]) rfl ?_
   exact ⟨_,_,_,rfl,Is.nil_,Nat.le_refl _,Below.step BW BR⟩
  have HT:=Lib.hid (zbl (p:=fun p : Pt => zbm p.name) HA.out HX.out HU.out)
  go_wp2_with fail
  go_roundw
  case rel => exact ⟨j + 1,by omega,by go_num,HT.out,BR⟩
  case measure => simp [intOf]; omega
 have H3 : Hid ((I ++ O).all (fun p => zbm p.name) = true):=Lib.hid (by
  have:=HA.out
  rwa [List.take_of_length_le (by rw [Hc.out]; omega)] at this)
 have H9 : ¬ (j : Int) < (q : Int):=by omega
 replace h:=h.on BR
 replace z0:=z0.on BR
 replace hP:=hP.on BR
 replace BW:=Below.step BW BR
 clear HA BR
 obtain ⟨w8,rfl⟩ : ∃ x,x = wr:=⟨_,rfl⟩
 go_wp2_with fail
 clear H9 hlt hj
 go_loopw [6] (fun i wr => ∃ j : Nat,j ≤ q ∧ i = .int .i64 j ∧ (List.range j).any (zdJ (I ++ O)) = false ∧ Below w8.heap.size w8 wr) (fun i _ => q - (intOf i).toNat)
 case atStart => exact ⟨0,Nat.zero_le _,rfl,rfl,Below.refl _ _⟩
 obtain ⟨j,hj,rfl,ha,BR⟩:=hrel
 have HA:=Lib.hid ha
 clear ha
 by_cases hlt : j < q
 ·obtain ⟨b0,off,nm,A',m,c',bs,eA,hbw,HX,k1,k2,hi⟩:=(hP.on BR).at0 hlt
  have H9 : (j : Int) < (q : Int):=by omega
  have hj0 : (0 : Int) ≤ (j : Int):=by omega
  clear k2 hi
  subst eA
  obtain ⟨w9,rfl⟩ : ∃ x,x = wr:=⟨_,rfl⟩
  go_wp2_with fail
  go_loopw [7] (fun i wr => ∃ l : Nat,l ≤ j ∧ i = .int .i64 l ∧ (((I ++ O).take j).take l).any (fun q => nm.toList == q.name.toList) = false ∧ Below w9.heap.size w9 wr) (fun i _ => j - (intOf i).toNat)
  case atStart => exact ⟨0,Nat.zero_le _,rfl,rfl,Below.refl _ _⟩
  obtain ⟨l,hl,rfl,ha,BS⟩:=hrel
  have HB:=Lib.hid ha
  clear ha
  by_cases hlm : l < j
  ·replace k1:=(BS.cell (p:=⟨b0,off + j * 2,none⟩) hbw).trans k1
   obtain ⟨b2,off2,nq,A2,m1,c1,bs2,eA,hbw2,HX2,g1,g2,_⟩:=((hP.on BR).on BS).at0 (show l < q by omega)
   injection eA with eA
   injection eA with e1 e2
   subst e1 e2
   have HX3 : Hid (((I ++ O).take j)[l]? = some ⟨nq,bs2⟩):=Lib.hid (by rw [List.getElem?_take,if_pos hlm]; exact HX2.out)
   have hl0 : (0 : Int) ≤ (l : Int):=by omega
   have hl1 : (l : Int) < (j : Int):=by omega
   have hl2 : (l : Int) < (q : Int):=by omega
   obtain ⟨u,hu⟩ : ∃ u,(nm.toList == nq.toList) = u:=⟨_,rfl⟩
   clear g2
   cases u
   ·have HT:=Lib.hid (anyn_take (p:=fun q : Pt => nm.toList == q.name.toList) HB.out HX3.out hu)
    go_wp2_with fail
    go_quiet (fail)
    go_wp2_with fail
    go_roundw
    case rel => exact ⟨l + 1,by omega,by go_num,HT.out,zaD BS _⟩
    case measure => simp [intOf]; omega
   have HR : Hid (dupS (I ++ O) = true):=Lib.hid (range_any (show j < (I ++ O).length by rw [Hc.out]; exact hlt) (by
    unfold zdJ
    rw [HX.out]
    exact List.any_eq_true.2 ⟨_,List.mem_of_getElem? HX3.out,hu⟩))
   have HE : Hid (d = none ∧ e = 8):=Lib.hid (zeM HL.out (wr8 Ha.out H2.out H3.out HR.out) (by omega))
   obtain ⟨rfl,rfl⟩:=HE.out
   go_wp2_with fail
   go_quiet (fail)
   go_wp2_with fail
   refine bodyPost_ret (v:=.tuple #[.slice none 0 0,.int .i64 8]) (by simp [results,Try.results58,go_sem]) rfl ?_
   exact ⟨_,_,_,rfl,Is.nil_,Nat.le_refl _,Below.step BW (zaD (Below.step BR BS) _)⟩
  have HT : Hid (zdJ (I ++ O) j = false):=by
   have:=HB.out
   rw [List.take_of_length_le (by rw [List.length_take,Hc.out]; omega)] at this
   exact Lib.hid (by unfold zdJ; rw [HX.out]; exact this)
  have HT2:=Lib.hid (zeJ HA.out HT.out)
  have hl1 : ¬ (l : Int) < (j : Int):=by omega
  go_wp2_with fail
  go_roundw
  case rel => exact ⟨j + 1,by omega,by go_num,HT2.out,Below.step BR BS⟩
  case measure => simp [intOf]; omega
 have H4 : Hid (dupS (I ++ O) = false):=by
  have:=HA.out
  have e : j = (I ++ O).length:=by rw [Hc.out]; omega
  rw [e] at this
  exact Lib.hid this
 have H9 : ¬ (j : Int) < (q : Int):=by omega
 replace h:=h.on BR
 replace z0:=z0.on BR
 replace BW:=Below.step BW BR
 clear HA BR hP
 obtain ⟨w10,rfl⟩ : ∃ x,x = wr:=⟨_,rfl⟩
 go_wp2_with fail
 clear H9 hlt hj
 go_loopw [8] (fun i wr => ∃ j : Nat,j ≤ nn ∧ i = .int .i64 j ∧ (List.range j).all (zer N (zah I)) = true ∧ Below w10.heap.size w10 wr) (fun i _ => nn - (intOf i).toNat)
 case atStart => exact ⟨0,Nat.zero_le _,rfl,rfl,Below.refl _ _⟩
 obtain ⟨j,hj,rfl,ha,BR⟩:=hrel
 have HA:=Lib.hid ha
 clear ha
 have z1:=z0.on BR
 obtain ⟨H8,H7,H6⟩:=z1.zb3
 have g:=h.on BR
 by_cases hlt : j < nn
 ·have H9 : (j : Int) < (nn : Int):=by omega
  have hj0 : (0 : Int) ≤ (j : Int):=by omega
  go_wp2_with fail
  refine (rtimes_as g.i (by have:=g.hs; omega) (fun p hp => g.hb p (List.mem_append_left _ hp)) HC.out (j : Int)).mono ?_
  rintro en w11 ⟨rfl,b⟩
  clear H7 H6
  replace H8:=(z1.on b).2 0 _ rfl
  replace g:=g.on b
  replace BR:=Below.step BR b
  obtain ⟨b0,off,x1,x2,x3,x4,eA,HX,hA⟩:=g.n.nat hlt
  obtain ⟨lt0,a1,_⟩:=hA
  subst eA
  obtain ⟨cc,hcc⟩ : ∃ cc,(zah I).count (j : Int) = cc:=⟨_,rfl⟩
  have hfd : zer N (zah I) j = decide (cc = if x1 = 1 then 1 else 0):=by
   unfold zer zbD
   rw [HX.out,hcc]
  have Hd:=Lib.hid hfd
  rw [hcc]
  clear b hcc hfd g z1
  by_cases hk : x1 = 1
  all_goals by_cases hg : cc = (if x1 = 1 then 1 else 0)
  case pos =>
   subst hk
   obtain rfl : cc = 1:=by simpa using hg
   have HT:=Lib.hid (zbq HA.out (by rw [Hd.out]; rfl))
   clear hg
   go_wp2_with fail
   go_roundw
   case rel => exact ⟨j + 1,by omega,by go_num,HT.out,BR⟩
   case measure => simp [intOf]; omega
  case neg =>
   subst hk
   have hg1 : ((cc : Int) != 1) = true:=by simp at hg ⊢; omega
   have HR : Hid (fedS N I = false):=Lib.hid (za7 (show j < N.length by rw [Hb.out]; exact hlt) (by rw [Hd.out]; exact decide_eq_false hg))
   clear hg
   have HE : Hid (d = none ∧ e = 10):=Lib.hid (zeM HL.out (wr10 Ha.out H2.out H3.out H4.out HR.out) (by omega))
   obtain ⟨rfl,rfl⟩:=HE.out
   go_wp2_with fail
   refine bodyPost_ret (v:=.tuple #[.slice none 0 0,.int .i64 10]) (by simp [results,Try.results58,go_sem]) rfl ?_
   exact ⟨_,_,_,rfl,Is.nil_,Nat.le_refl _,Below.step BW BR⟩
  case pos =>
   obtain rfl : cc = 0:=by rw [if_neg hk] at hg; exact hg
   have hk1 : (x1 == 1) = false:=by simp [hk]
   have hk2 : (x1 != 1) = true:=by simp [hk]
   have HT:=Lib.hid (zbq HA.out (by rw [Hd.out]; exact decide_eq_true hg))
   clear hg hk
   go_wp2_with fail
   go_roundw
   case rel => exact ⟨j + 1,by omega,by go_num,HT.out,BR⟩
   case measure => simp [intOf]; omega
  have hg1 : ((cc : Int) != 0) = true:=by rw [if_neg hk] at hg; simp; omega
  have hk1 : (x1 == 1) = false:=by simp [hk]
  have hk2 : (x1 != 1) = true:=by simp [hk]
  have HR : Hid (fedS N I = false):=Lib.hid (za7 (show j < N.length by rw [Hb.out]; exact hlt) (by rw [Hd.out]; exact decide_eq_false hg))
  clear hg hk
  have HE : Hid (d = none ∧ e = 10):=Lib.hid (zeM HL.out (wr10 Ha.out H2.out H3.out H4.out HR.out) (by omega))
  obtain ⟨rfl,rfl⟩:=HE.out
  go_wp2_with fail
  refine bodyPost_ret (v:=.tuple #[.slice none 0 0,.int .i64 10]) (by simp [results,Try.results58,go_sem]) rfl ?_
  exact ⟨_,_,_,rfl,Is.nil_,Nat.le_refl _,Below.step BW BR⟩
 have H5 : Hid (fedS N I = true):=by
  have:=HA.out
  have e : j = N.length:=by rw [Hb.out]; omega
  rw [e] at this
  exact Lib.hid this
 have H0:=Lib.hid (lv_good HL.out (wr0 Ha.out H2.out H3.out H4.out H5.out))
 have H9 : ¬ (j : Int) < (nn : Int):=by omega
 go_wp2_with fail
 refine (rlv_as g.n g.hn HF.out).mono ?_
 rintro en w12 (⟨A,m,c,dd,rfl,hd,hdl,hi,hmc,b⟩ | ⟨rfl,hd,b⟩)
 ·obtain ⟨rfl,rfl⟩:=H0.out.1 _ hd
  go_wp2_with fail
  refine bodyPost_ret (v:=.tuple #[.slice A m c,.int .i64 0]) (by simp [results,Try.results58,go_sem]) rfl ?_
  exact ⟨_,_,_,rfl,hi,hmc,Below.step BW (Below.step BR b)⟩
 obtain ⟨rfl,rfl⟩:=H0.out.2 hd
 go_wp2_with fail
 refine bodyPost_ret (v:=.tuple #[.slice none 0 0,.int .i64 9]) (by simp [results,Try.results58,go_sem]) rfl ?_
 exact ⟨_,_,_,rfl,Is.nil_,Nat.le_refl _,Below.step BW (Below.step BR b)⟩
end Go.Proofs.Ytcehklnonhalhaa
