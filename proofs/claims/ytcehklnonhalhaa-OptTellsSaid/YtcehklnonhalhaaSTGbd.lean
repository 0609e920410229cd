/-
  What the proofs of OptTells need: Gbd.
-/
import Derived.Test.YtcehklnonhalhaaSTGaa
set_option linter.unusedVariables false
namespace Go.Proofs.Ytcehklnonhalhaa
open Go.RowKit
set_option maxRecDepth 4000
def RlX (w : World) (N : List Nd) (en : Ending) (w' : World) : Prop:=(∃ A m c d,en = .returned (.tuple #[.slice A m c,.bool true]) ∧ levS N = some d ∧ d.length = N.length ∧ Is w' A m (d.map fun x : Nat => (x : Int)) ∧ m ≤ c ∧ Below w.heap.size w w') ∨ (en = .returned (.tuple #[.slice none 0 0,.bool false]) ∧ levS N = none ∧ Below w.heap.size w w')
theorem zeN {N : List Nd} {n : Nat} (hf : N.all (zaf n) = true) {i : Nat} {x : Nd} (hx : N[i]? = some x) : ∀ p ∈ zag x,∃ j : Nat,p = (j : Int) ∧ j < n:=by
 intro p hp
 have h1:=List.all_eq_true.1 hf x (List.mem_of_getElem? hx)
 unfold zaf at h1
 simp only [Bool.and_eq_true] at h1
 have h2:=List.all_eq_true.1 h1.2.2.1 p hp
 unfold zaj at h2
 simp only [Bool.and_eq_true,decide_eq_true_eq] at h2
 exact ⟨p.toNat,by omega,by omega⟩
theorem minus_all {o : List Int} {n : Nat} (hl : o.length = n) (h : ∀ i < n,o[i]? = some (-1)) : o = List.replicate n (-1):=by
 apply List.ext_getElem?
 intro i
 rw [List.getElem?_replicate]
 by_cases hi : i < n
 ·rw [if_pos hi,h i hi]
 rw [if_neg hi,List.getElem?_eq_none (by omega)]
def Rp2 (N : List Nd) (lv : List Int) (r i : Nat) : Prop:=Rd N lv ∧ Pg N lv r i
set_option maxRecDepth 20000 in
set_option maxHeartbeats 8000000 in
theorem rlv_as {An Ai Ao : Option Addr} {nn cn ni ci no co : Nat} {N : List Nd} {w : World} (h : Ns w An nn N) (hn : nn ≤ 100000) (hf : N.all (zaf nn) = true) :
  Calls Try.prog 84 #[.agg #[.slice An nn cn,.slice Ai ni ci,.slice Ao no co]]  w (RlX w N):=by
 have HF:=Lib.hid hf
 have H2:=Lib.hid h.1
 clear hf
 go_enter Try.func84,Try.ntmps84
 go_upto_region 1 with fail
 obtain ⟨w1,e_w1,z0,BW⟩:=zmB w [.slice An nn cn,.slice Ai ni ci,.slice Ao no co] 25
 rw [e_w1]
 clear e_w1
 replace h:=h.on BW
 have H0:=z0.2 0 _ rfl
 go_upto_region 2 with (at_make; refine za2 _ rfl _ _ 39 rfl 3 (.int .i64 0) 8 Try.underlying39 zdT rfl (by omega) _ nn rfl rfl rfl (by omega) ?_; intro w2 ho b1 hz1)
 obtain ⟨s,hs⟩ : ∃ s,w1.heap.size = s:=⟨_,rfl⟩
 rw [hs] at ho ⊢
 have H8 : w1.heap.size ≤ s:=by omega
 have ho2 : Own w2 s 3 (ivs (List.replicate nn 0)):=by unfold ivs; rw [List.map_replicate]; exact ho
 clear ho hz1 hs H0
 go_wp2_with fail
 go_loopw [5] (fun i wr => ∃ j : Nat,j ≤ nn ∧ i = .int .i64 j ∧ (∃ o : List Int,Hid (o.length = nn ∧ ∀ i < j,o[i]? = some (-1)) ∧ Own wr s 3 (ivs o)) ∧ Below w1.heap.size w1 wr) (fun i _ => nn - (intOf i).toNat)
 case atStart => exact ⟨0,Nat.zero_le _,rfl,⟨_,Lib.hid ⟨by simp,fun i hi => absurd hi (by omega)⟩,ho2⟩,b1⟩
 clear ho2 b1
 obtain ⟨j,hj,rfl,⟨o,HO,ho⟩,B1⟩:=hrel
 by_cases hlt : j < nn
 ·obtain ⟨y,hy⟩:=zat HO.out.1 hlt
  have oc:=(ho.cell j).trans (zbU hy)
  have of:=ho.free j
  have H1:=ho.put j (.int .i64 (-1))
  rw [zc6] at H1
  have B3:=B1.setCell (p:=⟨s,j,none⟩) H8 (.int .i64 (-1))
  have HO3 : Hid ((o.set j (-1)).length = nn ∧ ∀ i < j + 1,(o.set j (-1))[i]? = some (-1)):=Lib.hid ⟨by rw [List.length_set]; exact HO.out.1,fun i hi => by
   rw [zbv (by rw [HO.out.1]; exact hlt)]
   split
   ·rfl
   exact HO.out.2 i (by omega)⟩
  clear hy
  go_wp2_with fail
  go_roundw
  case rel => exact ⟨j + 1,by omega,by go_num,⟨_,HO3,H1⟩,B3⟩
  case measure => simp [intOf]; omega
 obtain rfl : j = nn:=by omega
 obtain rfl : o = List.replicate j (-1):=minus_all HO.out.1 HO.out.2
 have HR : Hid (Rp2 N (List.replicate j (-1)) 0 0):=Lib.hid (by have:=Rd.start N; have h2:=Pg.start N (List.replicate j (-1)); rw [H2.out] at this; exact ⟨this,h2⟩)
 clear HO
 obtain ⟨wa,rfl⟩ : ∃ x,x = wr:=⟨_,rfl⟩
 go_wp2_with fail
 go_loopw [6] (fun q wr => ∃ r : Nat,r ≤ j + 1 ∧ q = .int .i64 r ∧ (∃ lv : List Int,Hid (Rp2 N lv r 0) ∧ Own wr s 3 (ivs lv)) ∧ Below w1.heap.size w1 wr) (fun q _ => j + 1 - (intOf q).toNat)
 case atStart => exact ⟨0,Nat.zero_le _,rfl,⟨_,HR,ho⟩,B1⟩
 clear HR ho B1 hlt
 obtain ⟨r,hr,rfl,⟨lv,HR,ho⟩,B1⟩:=hrel
 have H0:=(z0.on B1).2 0 _ rfl
 by_cases hlt : r ≤ j
 ·have hrj : (r : Int) ≤ (j : Int):=by omega
  obtain ⟨wb,rfl⟩ : ∃ x,x = wr:=⟨_,rfl⟩
  go_wp2_with fail
  clear H0
  go_loopw [7] (fun q wr => ∃ i : Nat,i ≤ j ∧ q = .int .i64 i ∧ (∃ lv : List Int,Hid (Rp2 N lv r i) ∧ Own wr s 3 (ivs lv)) ∧ Below w1.heap.size w1 wr) (fun q _ => j - (intOf q).toNat)
  case atStart => exact ⟨0,Nat.zero_le _,rfl,⟨_,HR,ho⟩,B1⟩
  clear HR ho B1
  obtain ⟨i,hi,rfl,⟨lv,HR,ho⟩,B1⟩:=hrel
  have H0:=(z0.on B1).2 0 _ rfl
  by_cases hij : i < j
  ·obtain ⟨b0,off,k,p,q,t,eA,HX,hA⟩:=(h.on B1).nat hij
   obtain ⟨lt0,a1,a2,a3,a4⟩:=hA
   have Ha : (i : Int) < (j : Int):=by omega
   have hi0 : (0 : Int) ≤ (i : Int):=by omega
   have HP : Hid (∀ pp ∈ zag ⟨k,p,q,t⟩,∃ y : Nat,pp = (y : Int) ∧ y < j):=Lib.hid (zeN HF.out HX.out)
   have Hc : Hid (∀ y ∈ zdm ⟨k,p,q,t⟩,y.toNat < N.length):=Lib.hid fun y hy => by
    have hm : y ∈ zag ⟨k,p,q,t⟩:=by
     unfold zdm at hy
     split at hy
     ·cases hy
     exact hy
    obtain ⟨z,rfl,hz⟩:=HP.out y hm
    rw [H2.out]
    simpa using hz
   subst eA
   go_upto_region 13 with fail
   obtain ⟨w3,e_w3,z1,b3⟩:=zmB wr [.int .i64 k,.int .i64 p,.int .i64 q,.int .i64 t] 43
   rw [e_w3]
   clear e_w3 H0 a1 a2 a3 a4 lt0
   replace ho:=ho.below b3 ho.lt
   replace B1:=Below.step B1 b3
   clear b3
   have H7:=z1.2 0 _ rfl
   have H9 : Hid (lv.length = j):=Lib.hid (by rw [HR.out.1.len,H2.out])
   obtain ⟨y,hy⟩:=zat H9.out hij
   by_cases h7 : k = 7
   ·have e7 : (k != 7) = false:=by simp [h7]
    have H3 : Hid (Rp2 N (lv.set i 0) r (i + 1)):=Lib.hid (by
     have hlk : zdm ⟨k,p,q,t⟩ = []:=if_pos h7
     have h1:=HR.out.1.step HX.out Hc.out (by rw [hlk]; rfl)
     rw [hlk] at h1
     exact ⟨h1.1,HR.out.2.step h1.2.1 h1.2.2⟩)
    have oc:=(ho.cell i).trans (zbU hy)
    have of:=ho.free i
    have H1:=ho.put i (.int .i64 0)
    rw [zc6] at H1
    have B3:=B1.setCell (p:=⟨s,i,none⟩) H8 (.int .i64 0)
    clear hy h7
    go_wp2_with fail
    go_roundw
    case rel => exact ⟨i + 1,by omega,by go_num,⟨_,H3,H1⟩,B3⟩
    case measure => simp [intOf]; omega
   have e7 : (k != 7) = true:=by simp [h7]
   have H6 : Hid (zdm ⟨k,p,q,t⟩ = zag ⟨k,p,q,t⟩):=Lib.hid (if_neg h7)
   obtain ⟨z1c1,z1c2,z1c3⟩:=z1.zbc1c2c3
   clear h7 hy
   go_wp2_with fail
   refine (zch k p q t _).mono ?_
   rintro en w4 ⟨A,m,c,rfl,hu,hm3,b⟩
   replace ho:=ho.below b ho.lt
   replace B1:=Below.step B1 b
   clear b H7 z1c1 z1c2 z1c3 z1
   obtain ⟨L,hL⟩ : ∃ L,zag ⟨k,p,q,t⟩ = L:=⟨_,rfl⟩
   rw [hL] at HP H6 hu
   have HLL:=Lib.hid hu.1
   clear hL
   have HB : Hid (∀ y < j,-1 ≤ lv.getD y 0 ∧ lv.getD y 0 ≤ 100000):=Lib.hid fun y hy => by
    have:=HR.out.1.le (i:=y) (by rw [H2.out]; exact hy)
    have h2:=H2.out
    omega
   go_wp2_with fail
   go_loop [9,10,12] (fun a b u => ∃ l : Nat,l ≤ m ∧ u = .int .i64 l ∧ a = .int .i64 (zco lv (L.take l)) ∧ b = .bool (knR lv (L.take l))) (fun _ _ u => m - (intOf u).toNat)
   case atStart => exact ⟨0,Nat.zero_le _,rfl,rfl,rfl⟩
   obtain ⟨l,hl,rfl,rfl,rfl⟩:=hrel
   by_cases hlm : l < m
   ·obtain ⟨b2,off2,x,eB,HX2,cx⟩:=hu.at hlm
    obtain ⟨pj,ep,hpj⟩:=HP.out x (List.mem_of_getElem? HX2.out)
    subst ep eB
    obtain ⟨v,hv⟩:=zat H9.out hpj
    have oc:=(ho.cell pj).trans (zbU hv)
    have Hb:=getD_some hv
    have HM : Hid (zco lv (L.take (l + 1)) = max (zco lv (L.take l)) v):=Lib.hid (by rw [mostR_snoc HX2.out,Int.toNat_natCast,Hb])
    have HK : Hid (knR lv (L.take (l + 1)) = (knR lv (L.take l) && decide (0 ≤ v))):=Lib.hid (by rw [knR_snoc HX2.out,Int.toNat_natCast,Hb])
    have hpi0 : (0 : Int) ≤ (pj : Int):=by omega
    have hpi1 : (pj : Int) < (j : Int):=by omega
    have hl0 : (0 : Int) ≤ (l : Int):=by omega
    have hl1 : (l : Int) < (m : Int):=by omega
    obtain ⟨mo,hmo⟩ : ∃ mo,zco lv (L.take l) = mo:=⟨_,rfl⟩
    obtain ⟨kn,hkn⟩ : ∃ kn,knR lv (L.take l) = kn:=⟨_,rfl⟩
    rw [hmo] at HM ⊢
    rw [hkn] at HK ⊢
    clear hv Hb hmo hkn
    by_cases h0 : 0 ≤ v
    all_goals cases kn
    all_goals go_wp2_with fail
    all_goals go_round
    all_goals first
     | (simp [intOf]; omega)
     | exact ⟨l + 1,by omega,by go_num,by rw [HM.out]; congr 1; split <;> omega,by rw [HK.out]; simp [h0]⟩
   obtain rfl : l = m:=by omega
   have et : L.take l = L:=List.take_of_length_le (by rw [HLL.out]; exact Nat.le_refl _)
   rw [et]
   have hl1 : ¬ (l : Int) < (l : Int):=by omega
   have hmb : -1 ≤ zco lv L:=mostR_ge lv L
   have hmc : zco lv L ≤ 100000:=mostR_le lv L 100000 (by omega) fun p hp => by
    obtain ⟨z,rfl,hz⟩:=HP.out p hp
    exact (HB.out z hz).2
   obtain ⟨y,hy⟩:=zat H9.out hij
   have oc:=(ho.cell i).trans (zbU hy)
   have of:=ho.free i
   have hkk : (knR lv L = true → Hid (Rp2 N (lv.set i (zco lv L + 1)) r (i + 1))) ∧ (knR lv L = false → Hid (Rp2 N lv r (i + 1))):=⟨fun hk => Lib.hid (by
     have h1:=HR.out.1.step HX.out Hc.out (by rw [H6.out]; exact hk)
     rw [H6.out] at h1
     exact ⟨h1.1,HR.out.2.step h1.2.1 h1.2.2⟩),fun hk => Lib.hid ⟨HR.out.1,HR.out.2.pass HR.out.1.len HX.out Hc.out (by rw [H6.out]; exact hk)⟩⟩
   have H4:=Lib.hid hkk
   clear hkk hy et
   obtain ⟨mo,hmo⟩ : ∃ mo,zco lv L = mo:=⟨_,rfl⟩
   obtain ⟨kn,hkn⟩ : ∃ kn,knR lv L = kn:=⟨_,rfl⟩
   rw [hmo] at hmb hmc H4 ⊢
   rw [hkn] at H4 ⊢
   clear hmo hkn
   have hmb1 : 0 ≤ mo + 1:=by omega
   have H1:=ho.put i (.int .i64 (mo + 1))
   rw [zc6] at H1
   have B3:=B1.setCell (p:=⟨s,i,none⟩) H8 (.int .i64 (mo + 1))
   cases kn
   ·have H3:=H4.out.2 rfl
    clear H4 H1 B3
    go_wp2_with fail
    go_roundw
    case rel => exact ⟨i + 1,by omega,by go_num,⟨_,H3,ho⟩,B1⟩
    case measure => simp [intOf]; omega
   have H3:=H4.out.1 rfl
   clear H4
   go_wp2_with fail
   go_roundw
   case rel => exact ⟨i + 1,by omega,by go_num,⟨_,H3,H1⟩,B3⟩
   case measure => simp [intOf]; omega
  obtain rfl : i = j:=by omega
  have Ha : ¬ (i : Int) < (i : Int):=by omega
  have H3 : Hid (Rp2 N lv (r + 1) 0):=Lib.hid ⟨HR.out.1,by have:=HR.out.2; rw [← H2.out] at this; exact this.round⟩
  go_wp2_with fail
  go_roundw
  case rel => exact ⟨r + 1,by omega,by go_num,⟨_,H3,ho⟩,B1⟩
  case measure => simp [intOf]; omega
 obtain rfl : r = j + 1:=by omega
 have hrj : ¬ ((j + 1 : Nat) : Int) ≤ (j : Int):=by omega
 have hrj2 : ¬ ((j : Int) + 1) ≤ (j : Int):=by omega
 obtain ⟨wb,rfl⟩ : ∃ x,x = wr:=⟨_,rfl⟩
 have H5 : Hid (lv.length = j):=Lib.hid (by rw [HR.out.1.len,H2.out])
 go_wp2_with fail
 clear H0
 go_loopw [13] (fun q wr => ∃ i : Nat,i ≤ j ∧ q = .int .i64 i ∧ Hid (∀ y ∈ lv.take i,(0 : Int) ≤ y) ∧ wr = wb) (fun q _ => j - (intOf q).toNat)
 case atStart => exact ⟨0,Nat.zero_le _,rfl,Lib.hid (fun y hy => by simp at hy),rfl⟩
 obtain ⟨i,hi,rfl,HY,rfl⟩:=hrel
 by_cases hij : i < j
 ·obtain ⟨y,hy⟩:=zat H5.out hij
  have oc:=(ho.cell i).trans (zbU hy)
  have Ha : (i : Int) < (j : Int):=by omega
  have hi0 : (0 : Int) ≤ (i : Int):=by omega
  by_cases h0 : y < 0
  ·have HE : Hid (levS N = none):=Lib.hid (Pg.none (by have:=HR.out.2; rw [← H2.out] at this; exact this) hy HR.out.1.len h0)
   clear hy
   go_wp2_with fail
   refine bodyPost_ret (v:=.tuple #[.slice none 0 0,.bool false]) (by simp [results,Try.results84,go_sem]) rfl ?_
   exact .inr ⟨rfl,HE.out,Below.step BW B1⟩
  have HY2 : Hid (∀ z ∈ lv.take (i + 1),(0 : Int) ≤ z):=Lib.hid fun z hz => by
   rw [List.take_add_one,hy] at hz
   rcases List.mem_append.1 hz with hz | hz
   ·exact HY.out z hz
   simp at hz; omega
  clear hy
  go_wp2_with fail
  go_roundw
  case rel => exact ⟨i + 1,by omega,by go_num,HY2,trivial⟩
  case measure => simp [intOf]; omega
 have HE : Hid (levS N = some (lv.map Int.toNat)):=Lib.hid (HR.out.1.all (by
  have:=HY.out
  rwa [List.take_of_length_le (by rw [H5.out]; omega)] at this))
 have HV : Hid (∀ y ∈ lv,(0 : Int) ≤ y):=Lib.hid (by
  have:=HY.out
  rwa [List.take_of_length_le (by rw [H5.out]; omega)] at this)
 have Ha : ¬ (i : Int) < (j : Int):=by omega
 go_wp2_with fail
 refine bodyPost_ret (v:=.tuple #[.slice (some ⟨s,0,none⟩) j j,.bool true]) (by simp [results,Try.results84,go_sem]) rfl ?_
 refine .inl ⟨_,_,_,_,rfl,HE.out,by rw [List.length_map,H5.out,H2.out],?_,Nat.le_refl _,Below.step BW B1⟩
 have e : (lv.map Int.toNat).map (fun x : Nat => (x : Int)) = lv:=by
  rw [List.map_map]
  conv => rhs; rw [← List.map_id lv]
  refine List.map_congr_left fun x hx => ?_
  have:=HV.out x hx
  simp only [Function.comp]
  show ((x.toNat : Nat) : Int) = x
  omega
 rw [e]
 refine ⟨H5.out,fun k x hx => ⟨s,0,rfl,ho.lt,?_⟩⟩
 rw [Nat.zero_add]
 exact (ho.cell k).trans (zbU hx)
end Go.Proofs.Ytcehklnonhalhaa
