/-
  What the proofs of OptTells need: Gbb.
-/
import Derived.Test.YtcehklnonhalhaaSTGaa
import Derived.Deep.QuietTactic
import Derived.BigQuiet
set_option linter.unusedVariables false
namespace Go.Proofs.Ytcehklnonhalhaa
open Go.RowKit
set_option maxRecDepth 4000
set_option maxRecDepth 20000 in
set_option maxHeartbeats 8000000 in
theorem rformed_as {An Ai Ao : Option Addr} {nn cn ni ci no co : Nat} {N : List Nd} {I O : List Pt} {w : World} (h : Nt w An nn cn Ai ni ci Ao no co N I O) (v : Bool) (hv : (N.all (zaf nn) && (I ++ O).all (zaM nn)) = v) :
    Calls Try.prog 71 #[.agg #[.slice An nn cn,.slice Ai ni ci,.slice Ao no co]] w fun e w' => e = .returned (.bool v) ∧ Below w.heap.size w w':=by
  have HV:=Lib.hid hv
  have hs1 : ni + no ≤ 1000:=h.hs
  have hn1 : nn ≤ 1000000:=by have:=h.hn; omega
  have HLN:=Lib.hid h.n.1
  clear hv
  go_enter Try.func71,Try.ntmps71
  go_upto_region 1 with fail
  obtain ⟨w0,e_w0,z0,BW⟩:=zmB w [.slice An nn cn,.slice Ai ni ci,.slice Ao no co] 25
  rw [e_w0]
  clear e_w0
  replace h:=h.on BW
  go_wp2_with fail
  go_loopw [3] (fun i wr => ∃ j : Nat,j ≤ nn ∧ i = .int .i64 j ∧ (N.take j).all (zaf nn) = true ∧ Below w0.heap.size w0 wr) (fun i _ => nn - (intOf i).toNat)
  case atStart => exact ⟨0,Nat.zero_le _,rfl,rfl,Below.refl _ _⟩
  obtain ⟨j,hj,rfl,ha,BR⟩:=hrel
  have HA:=Lib.hid ha
  clear ha
  have H1:=(z0.on BR).2 0 _ rfl
  by_cases hlt : j < nn
  · obtain ⟨b0,off,x1,x2,x3,x4,eA,HX,hA⟩:=(h.n.on BR).nat hlt
    have H6 : (j : Int) < (nn : Int):=by omega
    have hj0 : (0 : Int) ≤ (j : Int):=by omega
    obtain ⟨u,hu⟩ : ∃ u,zaf nn ⟨x1,x2,x3,x4⟩ = u:=⟨_,rfl⟩
    have HU:=Lib.hid hu
    clear hu
    have z9:=z0.on BR
    subst eA
    go_wp2_with fail
    clear H1
    have b : Below wr.heap.size wr wr.drew:=(Below.refl _ _).drew
    replace z9:=z9.on b
    replace hA:=hA.on b
    have BB:=Below.step BR b
    clear BR
    have BR:=Lib.hid BB
    clear b BB
    go_region_held3 (fun w' => w'.cell? ⟨w.heap.size,0,none⟩ = some (.slice (some ⟨b0,off,none⟩) nn cn) ∧ w'.cell? ⟨b0,off + j * 4,none⟩ = some (.int .i64 x1) ∧ w'.cell? ⟨b0,off + j * 4 + 1,none⟩ = some (.int .i64 x2) ∧ w'.cell? ⟨b0,off + j * 4 + 2,none⟩ = some (.int .i64 x3) ∧ w'.cell? ⟨b0,off + j * 4 + 3,none⟩ = some (.int .i64 x4))
      ((with_reducible exact ⟨(Bx.t3 z9).1,hA.c1,hA.c2,hA.c3,hA.c4⟩))
      (first
        | (go_at_call 105
           (with_reducible refine (rright_as x1 x2 x3 x4 _ nn hn1 u HU.out).mono ?_)
           rintro en w4 ⟨rfl,b⟩
           replace z9:=z9.on b
           replace hA:=hA.on b
           replace BR:=Lib.hid (Below.step BR.out b)
           clear b))
    replace BR:=BR.out
    cases u
    · have HE : Hid (v = false):=Lib.hid (by rw [← HV.out,zbC HX.out HU.out]; rfl)
      go_wp2_with fail
      go_ret
      exact ⟨zad HE.out.symm,Below.step BW BR⟩
    have HT:=Lib.hid (zbl HA.out HX.out HU.out)
    go_wp2_with fail
    go_roundw
    case rel => exact ⟨j + 1,by omega,by go_num,HT.out,BR⟩
    case measure => simp [intOf]; omega
  have HE : Hid (N.all (zaf nn) = true):=Lib.hid (by
    have:=HA.out
    rwa [List.take_of_length_le (by rw [HLN.out]; omega)] at this)
  have H6 : ¬ (j : Int) < (nn : Int):=by omega
  go_wp2_with fail
  obtain ⟨w1,rfl⟩ : ∃ x,x = wr:=⟨_,rfl⟩
  replace h:=h.on BR
  replace z0:=z0.on BR
  replace BW:=Below.step BW BR
  clear H1 BR HA
  obtain ⟨RI,PRI,FRI⟩:=h.i.raw
  obtain ⟨RO,PRO,FRO⟩:=h.o.raw
  obtain ⟨w2,e_w2⟩ : ∃ w',w1.alloc (.cells #[] 41) = w':=⟨_,rfl⟩
  have b2 : Below w1.heap.size w1 w2:=e_w2 ▸ zaa _ _
  have hrow : w2.ownsRow w1.heap.size 41 2 (.slice (some ⟨w1.heap.size,0,none⟩) 0 0) 0 []:=e_w2 ▸ World.ownsRow_lit w1 #[] 0 (Nat.le_refl _) (by unfold maxLen; omega) rfl
  have H4:=z0.2 1 _ rfl
  have H3:=z0.2 2 _ rfl
  have y1:=(z0.on b2).2 1 _ rfl
  have y2:=(z0.on b2).2 2 _ rfl
  have H0 : w2.drew.ownsRow w1.heap.size 41 2 (.slice (some ⟨w1.heap.size,0,none⟩) 0 0) 0 []:=hrow
  have b1 : Below w1.heap.size w1 w2.drew:=b2.drew
  have hq : 0 + ni + no ≤ 1000000:=by omega
  go_cut [4] (AllP w1 (ni + no) (I ++ O))
  case first =>
    go_region_law (first
      | (refine zdN (A:=Ai) (m:=ni) (c:=ci) rfl _ _ 23 rfl zbW (by omega) (by omega) w1.heap.size _ 0 [] rfl H0 (RI.flatMap ptC) rfl h.si.none_ (by rw [zas ptC 2 zaL,PRI.1]) (PRI.on b1).cells (zef _) (by omega) b1.size ?_; intro v2 w3 hrow3 hg3; have B3:=za5 H0 b1 (Nat.le_refl _) hg3; have y3:=(z0.on B3).2 2 _ rfl)
      | (refine zdN (A:=Ao) (m:=no) (c:=co) rfl _ _ 23 rfl zbW (by omega) (by omega) w1.heap.size _ _ _ rfl hrow3 (RO.flatMap ptC) rfl h.so.none_ (by rw [zas ptC 2 zaL,PRO.1]) (PRO.on B3).cells (zef _) (by omega) B3.size ?_; intro v4 w4 hrow4 hg4; have B4:=za5 hrow3 B3 (Nat.le_refl _) hg4))
    all_goals rw [show ([] : List Value) ++ RI.flatMap ptC ++ RO.flatMap ptC = (RI ++ RO).flatMap ptC by rw [List.nil_append,List.flatMap_append],Nat.zero_add] at hrow4
    all_goals obtain ⟨A4,c4,rfl,sw4,_,hp4⟩:=row_ps hrow4
    all_goals have hpp:=hp4.ps ((FRI.on B4).append (FRO.on B4))
    all_goals clear hrow H0 hrow3 hrow4 FRI FRO PRI PRO h
    all_goals go_wp2_with fail
    all_goals go_meet
    all_goals exact ⟨A4,c4,rfl,hpp,sw4,B4⟩
  obtain ⟨A4,c4,rfl,hP,sw4,B4⟩:=hcut
  clear hrow H0 FRI FRO PRI PRO H4 H3 y1 y2 b1 b2 e_w2
  obtain ⟨w5,rfl⟩ : ∃ x,x = wc:=⟨_,rfl⟩
  have HLP:=Lib.hid hP.1
  have HBB : Hid (∀ p ∈ I ++ O,p.bits.length ≤ 1000000):=Lib.hid h.hb
  have hq1 : ni + no ≤ 1000000:=by omega
  replace z0:=z0.on B4
  replace BW:=Below.step BW B4
  obtain ⟨q,hq2⟩ : ∃ q,ni + no = q:=⟨_,rfl⟩
  rw [hq2] at hP HLP hq1 ⊢
  clear h B4 hq hs1 hq2
  have HN:=HE
  clear HE
  go_wp2_with fail
  go_loopw [5] (fun i wr => ∃ j : Nat,j ≤ q ∧ i = .int .i64 j ∧ ((I ++ O).take j).all (zaM nn) = true ∧ Below w5.heap.size w5 wr) (fun i _ => q - (intOf i).toNat)
  case atStart => exact ⟨0,Nat.zero_le _,rfl,rfl,Below.refl _ _⟩
  obtain ⟨j,hj,rfl,ha,BR⟩:=hrel
  have HA:=Lib.hid ha
  clear ha
  by_cases hlt : j < q
  · obtain ⟨b0,off,nm,A',m,c',bs,eA,hbw,HX,k1,k2,hi⟩:=(hP.on BR).at0 hlt
    have H6 : (j : Int) < (q : Int):=by omega
    have hj0 : (0 : Int) ≤ (j : Int):=by omega
    have hm : m ≤ 1000000:=by rw [← hi.1]; exact HBB.out _ (List.mem_of_getElem? HX.out)
    have H7:=Lib.hid hi.1
    have z9:=z0.on BR
    have key : zaM nn ⟨nm,bs⟩ = false → v = false:=fun h => by
      rw [← HV.out,zbC HX.out h,Bool.and_false]
    have H2:=Lib.hid key
    clear key
    subst eA
    by_cases hm0 : m = 0
    · have e0 : ((m : Int) == 0) = true:=by simp [hm0]
      have HE : Hid (v = false):=Lib.hid (H2.out (by
        have hl : bs.length = m:=H7.out
        unfold zaM
        rw [decide_eq_false (by rw [hm0] at hl; simpa using hl)]
        rfl))
      clear hm0
      go_wp2_with fail
      go_ret
      exact ⟨zad HE.out.symm,Below.step BW BR⟩
    have e0 : ((m : Int) == 0) = false:=by simp only [beq_eq_false_iff_ne,ne_eq]; omega
    obtain ⟨wo,rfl⟩ : ∃ x,x = wr:=⟨_,rfl⟩
    go_wp2_with fail
    clear k1
    go_loopw [6] (fun i wr => ∃ l : Nat,l ≤ m ∧ i = .int .i64 l ∧ (bs.take l).all (zaj nn) = true ∧ Below wo.heap.size wo wr) (fun i _ => m - (intOf i).toNat)
    case atStart => exact ⟨0,Nat.zero_le _,rfl,rfl,Below.refl _ _⟩
    obtain ⟨l,hl,rfl,hb,BS⟩:=hrel
    have HB2:=Lib.hid hb
    clear hb
    replace k2:=(BS.cell (p:=⟨b0,off + j * 2 + 1,none⟩) hbw).trans k2
    have H1:=(z9.on BS).2 0 _ rfl
    by_cases hlm : l < m
    · obtain ⟨b3,off3,x,eB,HX2,cx⟩:=(hi.on BS).at hlm
      subst eB
      have H5 : (l : Int) < (m : Int):=by omega
      have hl0 : (0 : Int) ≤ (l : Int):=by omega
      by_cases h0 : x < 0
      case pos =>
        have HE : Hid (v = false):=Lib.hid (H2.out (by unfold zaM; rw [zbC HX2.out (show zaj nn x = false by unfold zaj; simp; omega),Bool.and_false]))
        go_wp2_with fail
        go_quiet (fail)
        go_wp2_with fail
        go_ret
        exact ⟨zad HE.out.symm,Below.step BW (zaD (Below.step BR BS) _)⟩
      by_cases h1 : (nn : Int) ≤ x
      case pos =>
        have HE : Hid (v = false):=Lib.hid (H2.out (by unfold zaM; rw [zbC HX2.out (show zaj nn x = false by unfold zaj; simp; omega),Bool.and_false]))
        go_wp2_with fail
        go_quiet (fail)
        go_wp2_with fail
        go_ret
        exact ⟨zad HE.out.symm,Below.step BW (zaD (Below.step BR BS) _)⟩
      have HT:=Lib.hid (zbl HB2.out HX2.out (show zaj nn x = true by unfold zaj; simp; omega))
      go_wp2_with fail
      go_quiet (fail)
      go_wp2_with fail
      go_roundw
      case rel => exact ⟨l + 1,by omega,by go_num,HT.out,zaD BS _⟩
      case measure => simp [intOf]; omega
    have HT : Hid (((I ++ O).take (j + 1)).all (zaM nn) = true):=Lib.hid (zbl HA.out HX.out (by
      have hl9 : bs.length = m:=H7.out
      have eb : bs.take l = bs:=List.take_of_length_le (by omega)
      have h2:=HB2.out
      rw [eb] at h2
      have hl2 : bs.length = m:=H7.out
      unfold zaM
      rw [h2,decide_eq_true (by intro e; have e2 : bs = []:=e; rw [e2] at hl2; simp at hl2; omega)]
      rfl))
    have H5 : ¬ (l : Int) < (m : Int):=by omega
    go_wp2_with fail
    go_roundw
    case rel => exact ⟨j + 1,by omega,by go_num,HT.out,Below.step BR BS⟩
    case measure => simp [intOf]; omega
  have HE : Hid (v = true):=Lib.hid (by
    have h2:=HA.out
    rw [List.take_of_length_le (by rw [HLP.out]; omega)] at h2
    rw [← HV.out,HN.out,h2]
    rfl)
  have H6 : ¬ (j : Int) < (q : Int):=by omega
  go_wp2_with fail
  go_ret
  exact ⟨zad HE.out.symm,Below.step BW BR⟩
end Go.Proofs.Ytcehklnonhalhaa
