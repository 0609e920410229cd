/-
  What the proofs of OptTells need: Wj.
-/
import Derived.Test.YtcehklnonhalhaaSTYo
import Derived.Deep.RegionHeld3
set_option linter.unusedVariables false
namespace Go.Proofs.Ytcehklnonhalhaa
open Go.RowKit
set_option maxRecDepth 4000
def ClE (w : World) (nn ni no : Nat) (N : List Nd) (I O : List Pt) (en : Ending) (w' : World) : Prop:=∃ (Bn : Option Addr) (dn : Nat) (Bi : Option Addr) (di : Nat) (Bo : Option Addr) (do' : Nat) (s s2 : Nat) (Ri Ro : List Rp),en = .returned (.agg #[.slice Bn nn dn,.slice Bi ni di,.slice Bo no do']) ∧ w'.ownsRow w.heap.size 43 4 (.slice Bn nn dn) nn (N.flatMap ndC) ∧ (∀ g,(Value.slice Bn nn dn).ownBlock = some g → g < s) ∧ Sw Bn nn dn ∧ Sw Bi ni di ∧ Sw Bo no do' ∧ s ≤ s2 ∧ w.heap.size ≤ s ∧ s2 ≤ w'.heap.size
 ∧ w'.ownsRow s 41 2 (.slice Bi ni di) ni (Ri.flatMap ptC) ∧ (∀ g,(Value.slice Bi ni di).ownBlock = some g → g < s2) ∧ Ri.length = ni ∧ (∀ (k : Nat) (r : Rp) (p : Pt),Ri[k]? = some r → I[k]? = some p → r.name = p.name) ∧ GD w' s ni Ri I ∧ (∀ (k : Nat) (r : Rp),Ri[k]? = some r → ∀ b,(Value.slice r.A r.m r.c).ownBlock = some b → b < s2)
 ∧ w'.ownsRow s2 41 2 (.slice Bo no do') no (Ro.flatMap ptC) ∧ Ro.length = no ∧ (∀ (k : Nat) (r : Rp) (p : Pt),Ro[k]? = some r → O[k]? = some p → r.name = p.name) ∧ GD w' s2 no Ro O ∧ Below w.heap.size w w'
set_option maxHeartbeats 4000000 in
theorem cloneE_as {An Ai Ao : Option Addr} {nn cn ni ci no co : Nat} {N : List Nd} {I O : List Pt} {w : World} (h : Nt w An nn cn Ai ni ci Ao no co N I O) (sn : Sw An nn cn) (hb : ∀ p ∈ I ++ O,p.bits.length ≤ 100000) :
    Calls Try.prog 40 #[.agg #[.slice An nn cn,.slice Ai ni ci,.slice Ao no co]] w (ClE w nn ni no N I O):=by
  have hb1 : Hid (∀ p ∈ I,p.bits.length ≤ 100000):=Lib.hid fun p hp => hb p (List.mem_append_left _ hp)
  have hb2 : Hid (∀ p ∈ O,p.bits.length ≤ 100000):=Lib.hid fun p hp => hb p (List.mem_append_right _ hp)
  clear hb
  have hn1 : nn ≤ 100000:=by have:=h.hn; omega
  have hn2 : ni ≤ 1000:=by have:=h.hs; omega
  have hn3 : no ≤ 1000:=by have:=h.hs; omega
  go_enter Try.func40,Try.ntmps40
  go_upto_region 1 with fail
  obtain ⟨w1,e_w1,z0,b1⟩:=zmB w [.slice An nn cn,.slice Ai ni ci,.slice Ao no co] 25
  have H8 : w1.heap.size = w.heap.size + 1:=e_w1 ▸ zal w _ rfl
  rw [e_w1]
  clear e_w1
  obtain ⟨s1,hs0⟩ : ∃ s1,w.heap.size + 1 = s1:=⟨_,rfl⟩
  rw [hs0] at H8 ⊢
  obtain ⟨w2,e_w2⟩ : ∃ w',w1.alloc (.cells #[.slice none 0 0,.slice none 0 0,.slice none 0 0] 25) = w':=⟨_,rfl⟩
  have z1 : Bx w2 s1 [.slice none 0 0,.slice none 0 0,.slice none 0 0]:=e_w2 ▸ Bx.made_k w1 H8 #[.slice none 0 0,.slice none 0 0,.slice none 0 0] 25
  have ZR : Own w2 s1 25 [.slice none 0 0,.slice none 0 0,.slice none 0 0]:=by rw [← H8]; exact e_w2 ▸ Own.made w1 25 [.slice none 0 0,.slice none 0 0,.slice none 0 0]
  have b2 : Below w1.heap.size w1 w2:=e_w2 ▸ zaa _ _
  rw [e_w2]
  clear e_w2 H8
  replace z0:=z0.on b2
  have BW:=Below.step b1 b2
  replace h:=h.on BW
  clear b1 b2
  have b : Below w2.heap.size w2 w2.drew:=(Below.refl _ _).drew
  replace h:=h.on b
  replace z0:=z0.on b
  replace z1:=z1.on b
  replace ZR:=ZR.below b ZR.lt
  have BB:=Below.step BW b
  clear BW
  have BW:=Lib.hid BB
  clear b BB
  have Hc : w.heap.size ≠ s1:=by omega
  have hs2:=ZR.lt
  go_region_held3 (fun w' => w'.cell? ⟨w.heap.size,0,none⟩ = some (.slice An nn cn) ∧ w'.cell? ⟨w.heap.size,1,none⟩ = some (.slice Ai ni ci) ∧ w'.cell? ⟨w.heap.size,2,none⟩ = some (.slice Ao no co) ∧ w'.cell? ⟨s1,0,none⟩ = some (zc8 w' s1 0) ∧ w'.cell? ⟨s1,1,none⟩ = some (zc8 w' s1 1) ∧ w'.cell? ⟨s1,2,none⟩ = some (zc8 w' s1 2) ∧ w'.frozen? ⟨s1,0,none⟩ = false ∧ w'.frozen? ⟨s1,1,none⟩ = false ∧ w'.frozen? ⟨s1,2,none⟩ = false)
    ((first | with_reducible exact stS z0 ZR | exact stS (((z0.apart Hc 0 _).apart Hc 1 _).apart Hc 2 _) (ZR.p3' _ _ _)))
    (first
    | (go_at_call 67
       (with_reducible refine (zev h.n sn hn1).mono ?_)
       rintro en w3 ⟨vN,rfl,hrow,b⟩
       replace h:=h.on b
       replace z0:=z0.on b
       replace z1:=z1.on b
       replace ZR:=ZR.below b ZR.lt
       replace BW:=Lib.hid (Below.step BW.out b)
       have hlN:=Lib.hid hrow.lt
       have hs3:=ZR.lt
       obtain ⟨Bn,dn,rfl,swn,hln,_⟩:=zaP hrow
       clear b)
    | (go_at_call 68
       (with_reducible refine (zb2 h.i h.si hn2 hb1.out).mono ?_)
       rintro en w4 ⟨Bi,di,Ri,rfl,H0,hRil,hRin,H2,b⟩
       have He:=Lib.hid H0.lt
       have Hf:=Lib.hid H2
       replace h:=h.on b
       replace z0:=z0.on b
       replace z1:=z1.on b
       replace ZR:=ZR.below b ZR.lt
       replace BW:=Lib.hid (Below.step BW.out b)
       replace hrow:=zam hrow b
       have Ha:=b.size
       have hIL:=Lib.hid h.i.1
       clear b)
    | (go_at_call 68
       (with_reducible refine (zb2 h.o h.so hn3 hb2.out).mono ?_)
       rintro en w5 ⟨Bo,do',Ro,rfl,hrowO,hRl,hRn,hGD,b⟩
       replace h:=h.on b
       replace z0:=z0.on b
       replace z1:=z1.on b
       replace ZR:=ZR.below b ZR.lt
       replace BW:=Lib.hid (Below.step BW.out b)
       replace hrow:=zam hrow b
       replace H0:=zam H0 b
       replace H2:=H2.on b
       have hb5:=b
       have H9:=b.size
       clear b))
  all_goals replace BW:=BW.out
  have Hb : w.heap.size ≤ w2.drew.heap.size:=Nat.le_trans (by omega) (Nat.le_of_lt hs2)
  have VR:=ZR.p3' (.slice Bn nn dn) (.slice Bi ni di) (.slice Bo no do')
  obtain ⟨p0,p1,p2⟩:=VR.zo3
  have H6 : (((w5.setCell ⟨s1,0,none⟩ (.slice Bn nn dn)).setCell ⟨s1,1,none⟩ (.slice Bi ni di)).setCell ⟨s1,2,none⟩ (.slice Bo no do')).ownsRow w.heap.size 43 4 (.slice Bn nn dn) nn (N.flatMap ndC):=by
    have hk : (Value.slice Bn nn dn).ownBlock = none ∨ (Value.slice Bn nn dn).ownBlock ≠ some s1:=by
      right
      intro e
      have:=(hlN.out _ e).1
      omega
    exact zbY (((hrow.kept (zai _ _ _) hk).kept (zai _ _ _) hk).kept (zai _ _ _) hk) Hb
  have H5 : s1 < w4.heap.size:=by omega
  have H3:=zak (zak (zak hrowO H5 0 (.slice Bn nn dn)) H5 1 (.slice Bi ni di)) H5 2 (.slice Bo no do')
  have Hg:=((hGD.keepS H5 0 (.slice Bn nn dn)).keepS H5 1 (.slice Bi ni di)).keepS H5 2 (.slice Bo no do')
  have H1 : s1 < w3.heap.size:=by omega
  have H4:=zak (zak (zak H0 H1 0 (.slice Bn nn dn)) H1 1 (.slice Bi ni di)) H1 2 (.slice Bo no do')
  have H7:=((H2.keepS H1 0 (.slice Bn nn dn)).keepS H1 1 (.slice Bi ni di)).keepS H1 2 (.slice Bo no do')
  have Hd : ∀ (k : Nat) (r : Rp),Ri[k]? = some r → ∀ b,(Value.slice r.A r.m r.c).ownBlock = some b → b < w4.heap.size:=fun k r hr b e => by
    have hk : k < ni:=by rw [← hRil]; exact (List.getElem?_eq_some_iff.1 hr).1
    obtain ⟨p,hp⟩:=zat hIL.out hk
    exact ((Hf.out k r p hk hr hp).1.lt b e).2
  have hsz : w4.heap.size ≤ (((w5.setCell ⟨s1,0,none⟩ (.slice Bn nn dn)).setCell ⟨s1,1,none⟩ (.slice Bi ni di)).setCell ⟨s1,2,none⟩ (.slice Bo no do')).heap.size:=by simpa using H9
  obtain ⟨Bo',do2,eBo,swo,_⟩:=zaP hrowO
  injection eBo with eBo _ eBo2
  subst eBo eBo2
  obtain ⟨Bi',di2,eBi,swi,_⟩:=zaP H0
  injection eBi with eBi _ eBi2
  subst eBi eBi2
  have hws : w.heap.size ≤ s1:=by omega
  have BW6:=BW.e3' hws (.slice Bn nn dn) (.slice Bi ni di) (.slice Bo no do')
  clear hrow H0 H2 hrowO hGD BW hb5
  go_wp2_with fail
  refine bodyPost_ret (v:=.agg #[.slice Bn nn dn,.slice Bi ni di,.slice Bo no do']) (by simp [results,Try.results40,go_sem,p0,p1,p2]) rfl ?_
  unfold ClE
  exact ⟨Bn,dn,Bi,di,Bo,do',w3.heap.size,w4.heap.size,Ri,Ro,rfl,H6,fun g e => (hlN.out g e).2,swn,swi,swo,Ha,by omega,hsz,H4,fun g e => (He.out g e).2,hRil,hRin,H7,Hd,H3,hRl,hRn,Hg,BW6⟩
end Go.Proofs.Ytcehklnonhalhaa
