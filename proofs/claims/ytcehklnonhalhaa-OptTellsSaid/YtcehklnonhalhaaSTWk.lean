/-
  What the proofs of OptTells need: Wk Wr Wt.
-/
import Derived.Test.YtcehklnonhalhaaSTWb
import Derived.Test.YtcehklnonhalhaaSTWj
import Derived.Test.YtcehklnonhalhaaSTWa
import Derived.Test.YtcehklnonhalhaaSTGbe
set_option linter.unusedVariables false
namespace Go.Proofs.Ytcehklnonhalhaa
open Go.RowKit
set_option maxRecDepth 4000
def mvN (P : List Int) (x : Nd) : Nd:=if x.k = 2 ∨ x.k = 7 then ⟨x.k,sA P x.a,x.b,x.c⟩ else if x.k = 3 ∨ x.k = 4 ∨ x.k = 5 then ⟨x.k,sA P x.a,sA P x.b,x.c⟩ else if x.k = 6 then ⟨x.k,sA P x.a,sA P x.b,sA P x.c⟩ else x
theorem zaS (P : List Int) (m : Nat) : sA P (m : Int) = P.getD m 0:=by unfold sA; rw [Int.toNat_natCast]
theorem smoved_as {w : World} {Ap : Option Addr} {n cp : Nat} {P : List Int} (hP : Is w Ap n P) {x y : Nd} (hx : Plc n (zag x)) (hy : mvN P x = y) : Calls Try.prog 54 #[ndA x,.slice Ap n cp] w fun e w' => e = .returned (ndA y) ∧ Below w.heap.size w w':=by
 subst hy
 obtain ⟨k,a,b,c⟩:=x
 by_cases e2 : k = 2
 ·subst e2
  obtain ⟨m,rfl,hm⟩:=hx a (List.mem_singleton.2 rfl)
  obtain ⟨b0,off,e,i⟩:=hP.iat hm
  subst e
  have e : mvN P ⟨2,(m : Int),b,c⟩ = ⟨2,P.getD m 0,b,c⟩:=by unfold mvN; rw [if_pos (by simp),zaS]
  rw [e]
  exact moved_a m b c _ 2 (.inl rfl) hm i
 by_cases e7 : k = 7
 ·subst e7
  obtain ⟨m,rfl,hm⟩:=hx a (List.mem_singleton.2 rfl)
  obtain ⟨b0,off,e,i⟩:=hP.iat hm
  subst e
  have e : mvN P ⟨7,(m : Int),b,c⟩ = ⟨7,P.getD m 0,b,c⟩:=by unfold mvN; rw [if_pos (by simp),zaS]
  rw [e]
  exact moved_a m b c _ 7 (.inr ⟨rfl,rfl⟩) hm i
 by_cases e3 : k = 3
 ·subst e3
  obtain ⟨m,rfl,hm⟩:=hx a (by simp [zag,zau])
  obtain ⟨m2,rfl,hm2⟩:=hx b (by simp [zag,zau])
  obtain ⟨b0,off,e,i⟩:=hP.iat hm
  subst e
  obtain ⟨b1,off1,e,i2⟩:=hP.iat hm2
  injection e with e
  injection e with ea eb
  subst ea eb
  have e : mvN P ⟨3,(m : Int),(m2 : Int),c⟩ = ⟨3,P.getD m 0,P.getD m2 0,c⟩:=by unfold mvN; rw [if_neg (by simp),if_pos (by simp),zaS,zaS]
  rw [e]
  exact moved_b m m2 c _ _ 3 rfl rfl (.inl rfl) hm i hm2 i2
 by_cases e4 : k = 4
 ·subst e4
  obtain ⟨m,rfl,hm⟩:=hx a (by simp [zag,zau])
  obtain ⟨m2,rfl,hm2⟩:=hx b (by simp [zag,zau])
  obtain ⟨b0,off,e,i⟩:=hP.iat hm
  subst e
  obtain ⟨b1,off1,e,i2⟩:=hP.iat hm2
  injection e with e
  injection e with ea eb
  subst ea eb
  have e : mvN P ⟨4,(m : Int),(m2 : Int),c⟩ = ⟨4,P.getD m 0,P.getD m2 0,c⟩:=by unfold mvN; rw [if_neg (by simp),if_pos (by simp),zaS,zaS]
  rw [e]
  exact moved_b m m2 c _ _ 4 rfl rfl (.inr (.inl ⟨rfl,rfl⟩)) hm i hm2 i2
 by_cases e5 : k = 5
 ·subst e5
  obtain ⟨m,rfl,hm⟩:=hx a (by simp [zag,zau])
  obtain ⟨m2,rfl,hm2⟩:=hx b (by simp [zag,zau])
  obtain ⟨b0,off,e,i⟩:=hP.iat hm
  subst e
  obtain ⟨b1,off1,e,i2⟩:=hP.iat hm2
  injection e with e
  injection e with ea eb
  subst ea eb
  have e : mvN P ⟨5,(m : Int),(m2 : Int),c⟩ = ⟨5,P.getD m 0,P.getD m2 0,c⟩:=by unfold mvN; rw [if_neg (by simp),if_pos (by simp),zaS,zaS]
  rw [e]
  exact moved_b m m2 c _ _ 5 rfl rfl (.inr (.inr ⟨rfl,rfl,rfl⟩)) hm i hm2 i2
 by_cases e6 : k = 6
 ·subst e6
  obtain ⟨m,rfl,hm⟩:=hx a (by simp [zag,zau])
  obtain ⟨m2,rfl,hm2⟩:=hx b (by simp [zag,zau])
  obtain ⟨b0,off,e,i⟩:=hP.iat hm
  subst e
  obtain ⟨b1,off1,e,i2⟩:=hP.iat hm2
  injection e with e
  injection e with ea eb
  subst ea eb
  obtain ⟨m3,rfl,hm3⟩:=hx c (by simp [zag,zau])
  obtain ⟨b2,off2,e,i3⟩:=hP.iat hm3
  injection e with e
  injection e with ea eb
  subst ea eb
  have e : mvN P ⟨6,(m : Int),(m2 : Int),(m3 : Int)⟩ = ⟨6,P.getD m 0,P.getD m2 0,P.getD m3 0⟩:=by unfold mvN; rw [if_neg (by simp),if_neg (by simp),if_pos rfl,zaS,zaS,zaS]
  rw [e]
  exact moved_6 m m2 m3 _ _ _ hm i hm2 i2 hm3 i3
 have e : mvN P ⟨k,a,b,c⟩ = ⟨k,a,b,c⟩:=by
  unfold mvN
  rw [if_neg (by rintro (h | h) <;> contradiction),if_neg (by rintro (h | h | h) <;> contradiction),if_neg e6]
 rw [e]
 exact moved_n a b c k (zae e2) (zae e7) (zae e3) (zae e4) (zae e5) (zae e6)
theorem pdx0 (A1 A2 : Option Addr) (n1 c1 n2 c2 : Nat) (w : World) : (Instr.index 91 (.agg #[.slice A1 n1 c1,.slice A2 n2 c2]) (.int .i64 0)).run Try.prog w = .ok (.slice A1 n1 c1) w:=by kernel_rfl
theorem pdx1 (A1 A2 : Option Addr) (n1 c1 n2 c2 : Nat) (w : World) : (Instr.index 91 (.agg #[.slice A1 n1 c1,.slice A2 n2 c2]) (.int .i64 1)).run Try.prog w = .ok (.slice A2 n2 c2) w:=by kernel_rfl
set_option maxRecDepth 4000
set_option maxHeartbeats 1000000 in
theorem zbO (k p q r : Int) (w : World) : Calls Try.prog 21 #[.agg #[.int .i64 k,.int .i64 p,.int .i64 q,.int .i64 r]] w fun en w' => ∃ g m,en = .returned (.slice (some ⟨g,0,none⟩) m 3) ∧ Own w' g 3 [.int .i64 p,.int .i64 q,.int .i64 r] ∧ Hid (m = zau k) ∧ m ≤ 3 ∧ w.heap.size ≤ g ∧ Below w.heap.size w w':=by
 obtain ⟨v,hv⟩ : ∃ v,zbd k = v:=⟨_,rfl⟩
 obtain ⟨m,hm⟩ : ∃ m,zau k = m:=⟨_,rfl⟩
 have hm3 : (m : Int) ≤ 3:=by have:=zbM k; omega
 have hm0 : (0 : Int) ≤ (m : Int):=by omega
 have H1 : v = (m : Int) ∨ (v = -1 ∧ m = 0):=by
  have:=many_max k
  unfold zbd at this hv
  cases hk : za8 k
  ·rw [hk] at this hv
   simp at this hv
   omega
  rw [hk] at hv
  simp at hv
  omega
 have HV:=Lib.hid hv
 have HM : Hid (m = zau k):=Lib.hid hm.symm
 have hgo : ∀ w3 : World,True:=fun _ => trivial
 clear hv hm hgo
 go_enter Try.func21,Try.ntmps21
 go_upto_region 1 with fail
 obtain ⟨w1,e_w1,z0,b1⟩:=zmB w [.int .i64 k,.int .i64 p,.int .i64 q,.int .i64 r] 43
 rw [e_w1]
 clear e_w1
 obtain ⟨z0c1,z0c2,z0c3⟩:=z0.zbc1c2c3
 go_upto_region 2 with fail
 obtain ⟨w2,e_w2⟩ : ∃ w',w1.alloc (.cells #[.int .i64 p,.int .i64 q,.int .i64 r] 3) = w':=⟨_,rfl⟩
 have z1 : Own w2 w1.heap.size 3 [.int .i64 p,.int .i64 q,.int .i64 r]:=e_w2 ▸ Own.made w1 3 [.int .i64 p,.int .i64 q,.int .i64 r]
 have b2 : Below w1.heap.size w1 w2:=e_w2 ▸ zaa _ _
 have hs1 : w.heap.size ≤ w1.heap.size:=b1.size
 rw [e_w2]
 clear e_w2 z0c1 z0c2 z0c3
 have BW:=Below.step b1 b2
 replace z0:=z0.on b2
 have H0:=z0.2 0 _ rfl
 clear b1 b2
 go_wp2_with fail
 refine (zb0 k v HV.out _).mono ?_
 rintro en w3 ⟨rfl,b3⟩
 replace z1:=z1.below b3 z1.lt
 replace BW:=Below.step BW b3
 clear H0 b3
 rcases H1 with rfl | ⟨rfl,rfl⟩
 ·have hmn : ¬ (m : Int) < 0:=by omega
  go_wp2_with fail
  refine bodyPost_ret (v:=.slice (some ⟨w1.heap.size,0,none⟩) m 3) (by simp [results,Try.results21,go_sem]) rfl ?_
  exact ⟨_,m,rfl,z1,HM,by omega,hs1,BW⟩
 have hmx : max (-1 : Int) 0 = 0:=by decide
 go_wp2_with fail
 refine bodyPost_ret (v:=.slice (some ⟨w1.heap.size,0,none⟩) 0 3) (by simp [results,Try.results21,go_sem]) rfl ?_
 exact ⟨_,0,rfl,z1,HM,by omega,hs1,BW⟩
structure Gw (W0 : World) (s0 g : Nat) (vals : List Value) (B : List Bool) (w : World) : Prop where
  z : Own w s0 25 vals
  o : Own w g 4 (B.map .bool)
  b : Below W0.heap.size W0 w
section
variable {W0 w w' : World} {s0 g : Nat} {vals : List Value} {B : List Bool}
theorem Gw.on (h : Gw W0 s0 g vals B w) (hb : Below w.heap.size w w') : Gw W0 s0 g vals B w':=⟨h.z.below hb h.z.lt,h.o.below hb h.o.lt,Below.step h.b hb⟩
theorem Gw.put (h : Gw W0 s0 g vals B w) (hg : W0.heap.size ≤ g) (q : Nat) : Gw W0 s0 g vals (B.set q true) (w.setCell ⟨g,q,none⟩ (.bool true)):=
 ⟨h.z.apart (zaK h.z h.o (by decide)) _ _,by rw [List.map_set]; exact h.o.put q _,h.b.setCell (p:=⟨g,q,none⟩) hg _⟩
theorem Gw.bit (h : Gw W0 s0 g vals B w) {i : Nat} {u : Bool} (hi : i < B.length) (hu : B.getD i false = u) : w.cell? ⟨g,i,none⟩ = some (.bool u):=by
 rw [h.o.cell i,List.getElem?_map,List.getElem?_eq_getElem hi]
 rw [List.getD_eq_getElem?_getD,List.getElem?_eq_getElem hi] at hu
 exact congrArg (fun b => some (Value.bool b)) hu
end
set_option maxRecDepth 20000 in
set_option maxHeartbeats 8000000 in
theorem rgrow_as {W0 w : World} {An Ai Ao : Option Addr} {nn cn ni ci no co : Nat} {N : List Nd} (hN : Ns W0 An nn N) (hnn : nn ≤ 100000) (hu : ∀ q,q < nn → Plc nn (zag (N.getD q nd0))) {g : Nat} {B : List Bool} (hB : Below W0.heap.size W0 w) (hg : W0.heap.size ≤ g) (hO : Own w g 4 (B.map .bool)) (hl : B.length = nn) :
  Calls Try.prog 59 #[.agg #[.slice An nn cn,.slice Ai ni ci,.slice Ao no co],.slice (some ⟨g,0,none⟩) nn nn] w fun e w' => e = .returned (.slice (some ⟨g,0,none⟩) nn nn) ∧ Own w' g 4 ((gK N B (nn + 1)).map .bool) ∧ Below W0.heap.size W0 w':=by
 have HU:=Lib.hid hu
 have HLN:=Lib.hid hN.1
 have HL:=Lib.hid hl
 clear hu hl
 go_enter Try.func59,Try.ntmps59
 go_upto_region 1 with fail
 obtain ⟨w1,e_w1⟩ : ∃ w',w.alloc (.cells #[.slice An nn cn,.slice Ai ni ci,.slice Ao no co] 25) = w':=⟨_,rfl⟩
 have z0 : Own w1 w.heap.size 25 [.slice An nn cn,.slice Ai ni ci,.slice Ao no co]:=e_w1 ▸ Own.made w 25 [.slice An nn cn,.slice Ai ni ci,.slice Ao no co]
 have b1 : Below w.heap.size w w1:=e_w1 ▸ zaa _ _
 rw [e_w1]
 have HG:=Lib.hid (Gw.mk z0 (hO.below b1 hO.lt) (Below.step hB b1))
 clear e_w1 z0 b1 hO hB
 obtain ⟨s0,hs0⟩ : ∃ s0,w.heap.size = s0:=⟨_,rfl⟩
 rw [hs0] at HG ⊢
 clear hs0
 obtain ⟨vals,hvals⟩ : ∃ vals,[Value.slice An nn cn,.slice Ai ni ci,.slice Ao no co] = vals:=⟨_,rfl⟩
 have HVL:=Lib.hid hvals
 rw [hvals] at HG
 clear hvals
 go_wp2_with fail
 go_loopw [5] (fun rv wr => ∃ r : Nat,r ≤ nn + 1 ∧ rv = .int .i64 r ∧ Hid (Gw W0 s0 g vals (gK N B r) wr)) (fun rv _ => nn + 1 - (intOf rv).toNat)
 case atStart => exact ⟨0,by omega,rfl,HG⟩
 clear HG
 obtain ⟨r,hr,rfl,HG⟩:=hrel
 have a0 : wr.cell? ⟨s0,0,none⟩ = some (.slice An nn cn):=by rw [HG.out.z.cell 0,← HVL.out]; rfl
 by_cases hlt : r ≤ nn
 ·have hle : (r : Int) ≤ (nn : Int):=by omega
  obtain ⟨Br,hBr⟩ : ∃ Br,gK N B r = Br:=⟨_,rfl⟩
  have HBR : Hid (gI N Br nn = gK N B (r + 1)):=Lib.hid (by rw [← hBr,← HLN.out]; rfl)
  have HBL : Hid (Br.length = nn):=Lib.hid (by rw [← hBr,gK_len]; exact HL.out)
  rw [hBr] at HG
  clear hBr
  go_wp2_with fail
  clear a0
  go_loopw [6] (fun iv wr => ∃ i : Nat,i ≤ nn ∧ iv = .int .i64 i ∧ Hid (Gw W0 s0 g vals (gI N Br i) wr)) (fun iv _ => nn - (intOf iv).toNat)
  case atStart => exact ⟨0,by omega,rfl,HG⟩
  clear HG
  obtain ⟨i,hi,rfl,HG⟩:=hrel
  by_cases hin : i < nn
  ·have hi1 : (i : Int) < (nn : Int):=by omega
   have hi0 : (0 : Int) ≤ (i : Int):=by omega
   have a0 : wr.cell? ⟨s0,0,none⟩ = some (.slice An nn cn):=by rw [HG.out.z.cell 0,← HVL.out]; rfl
   obtain ⟨bn,off,x1,x2,x3,x4,eA,HX,hA⟩:=hN.nat hin
   subst eA
   have H3:=hA.low hA.lt HG.out.b
   have c1:=H3.c1; have c2:=H3.c2; have c3:=H3.c3; have c4:=H3.c4
   obtain ⟨Bi,hBi⟩ : ∃ Bi,gI N Br i = Bi:=⟨_,rfl⟩
   have H0 : Hid (Bi.length = nn):=Lib.hid (by rw [← hBi,gI_len]; exact HBL.out)
   have HND : Hid (N.getD i nd0 = ⟨x1,x2,x3,x4⟩):=Lib.hid (getD_of HX.out)
   obtain ⟨u,hu⟩ : ∃ u,Bi.getD i false = u:=⟨_,rfl⟩
   have H6 : Hid (gI N Br (i + 1) = if u = true then setB Bi (zag ⟨x1,x2,x3,x4⟩) else Bi):=Lib.hid (by
    show gS N (gI N Br i) i = _
    rw [hBi]
    unfold gS
    rw [hu,HND.out])
   have H4:=Lib.hid hu
   rw [hBi] at HG
   clear hBi hu hA H3
   go_wp2_with fail
   refine (zbO x1 x2 x3 x4 _).mono ?_
   rintro en w9 ⟨gy,mu,rfl,hoy,HMU,hm3,hgy,b9⟩
   replace HG:=Lib.hid (HG.out.on b9)
   have H1:=Lib.hid hoy
   clear b9 c1 c2 c3 c4 a0 hoy hgy
   cases u
   ·have hb:=HG.out.bit (i:=i) (by rw [H0.out]; exact hin) H4.out
    go_wp2_with fail
    go_loopw [8] (fun kv wr => kv = .int .i64 0 ∧ Hid (Gw W0 s0 g vals Bi wr)) (fun kv _ => 0)
    case atStart => exact ⟨rfl,HG⟩
    clear HG hb
    obtain ⟨rfl,HG⟩:=hrel
    have hb:=HG.out.bit (i:=i) (by rw [H0.out]; exact hin) H4.out
    have H2 : Hid (Gw W0 s0 g vals (gI N Br (i + 1)) wr):=Lib.hid (by rw [H6.out,if_neg (by decide)]; exact HG.out)
    by_cases hm0 : mu = 0
    ·subst hm0
     go_wp2_with fail
     go_roundw
     case rel => exact ⟨i + 1,by omega,by go_num,H2⟩
     case measure => simp [intOf]; omega
    have hmp : (0 : Int) < (mu : Int):=by omega
    have hmp2 : 0 < mu:=by omega
    go_wp2_with fail
    go_roundw
    case rel => exact ⟨i + 1,by omega,by go_num,H2⟩
    case measure => simp [intOf]; omega
   obtain ⟨Y,hY⟩ : ∃ Y,zag ⟨x1,x2,x3,x4⟩ = Y:=⟨_,rfl⟩
   have HYL : Hid (Y.length = mu):=Lib.hid (by rw [← hY,zbo,HMU.out])
   have HYP : Hid (Plc nn Y):=Lib.hid (by rw [← hY,← HND.out]; exact HU.out i hin)
   have HYC : Hid (∀ k,k < mu → ([.int .i64 x2,.int .i64 x3,.int .i64 x4] : List Value)[k]? = (Y[k]?).map (.int .i64)):=Lib.hid fun k hk => by
    have e : Y[k]? = ([x2,x3,x4] : List Int)[k]?:=by
     rw [← hY]
     unfold zag
     rw [List.getElem?_take,if_pos (by rw [← HMU.out]; exact hk)]
    rw [e]
    rcases k with _ | _ | _ | k <;> rfl
   rw [hY] at H6
   clear hY
   go_wp2_with fail
   go_loopw [8] (fun kv wr => ∃ k : Nat,k ≤ mu ∧ kv = .int .i64 k ∧ Hid (Gw W0 s0 g vals (setB Bi (Y.take k)) wr) ∧ Hid (Own wr gy 3 [.int .i64 x2,.int .i64 x3,.int .i64 x4])) (fun kv _ => mu - (intOf kv).toNat)
   case atStart => exact ⟨0,by omega,rfl,HG,H1⟩
   clear HG H1
   obtain ⟨k,hk,rfl,HG,H1⟩:=hrel
   have hb:=HG.out.bit (i:=i) (by rw [zcg,H0.out]; exact hin) (zd2 _ _ _ H4.out)
   by_cases hkm : k < mu
   ·have hk1 : (k : Int) < (mu : Int):=by omega
    have hk0 : (0 : Int) ≤ (k : Int):=by omega
    obtain ⟨y,hy⟩ : ∃ y,Y[k]? = some y:=⟨_,List.getElem?_eq_getElem (by rw [HYL.out]; exact hkm)⟩
    have cy : wr.cell? ⟨gy,k,none⟩ = some (.int .i64 y):=by rw [H1.out.cell k,HYC.out k hkm,hy]; rfl
    obtain ⟨m,rfl,hmn⟩:=HYP.out y (List.mem_of_getElem? hy)
    have hm0 : (0 : Int) ≤ (m : Int):=by omega
    have hm1 : (m : Int) < (nn : Int):=by omega
    obtain ⟨um,hum⟩ : ∃ um,(setB Bi (Y.take k)).getD m false = um:=⟨_,rfl⟩
    have cm:=HG.out.bit (i:=m) (by rw [zcg,H0.out]; exact hmn) hum
    have f1:=HG.out.o.free m
    have HG2 : Hid (Gw W0 s0 g vals (setB Bi (Y.take (k + 1))) (wr.setCell ⟨g,m,none⟩ (.bool true))):=Lib.hid (by
     have:=HG.out.put hg m
     rw [setB_snoc hy,Int.toNat_natCast]
     exact this)
    have H5 : Hid (Own (wr.setCell ⟨g,m,none⟩ (.bool true)) gy 3 [.int .i64 x2,.int .i64 x3,.int .i64 x4]):=Lib.hid (H1.out.apart (zaK H1.out HG.out.o (by decide)) _ _)
    clear hy hum
    go_wp2_with fail
    go_roundw
    case rel => exact ⟨k + 1,by omega,by go_num,HG2,H5⟩
    case measure => simp [intOf]; omega
   obtain rfl : k = mu:=by omega
   have hk1 : ¬ (k : Int) < (k : Int):=by omega
   have H2 : Hid (Gw W0 s0 g vals (gI N Br (i + 1)) wr):=Lib.hid (by
    have:=HG.out
    rw [List.take_of_length_le (by rw [HYL.out]; exact Nat.le_refl _)] at this
    rw [H6.out]
    first
     | (rw [if_pos rfl]; exact this)
     | (rw [if_pos trivial]; exact this))
   go_wp2_with fail
   go_roundw
   case rel => exact ⟨i + 1,by omega,by go_num,H2⟩
   case measure => simp [intOf]; omega
  obtain rfl : i = nn:=by omega
  have hi1 : ¬ (i : Int) < (i : Int):=by omega
  have H2 : Hid (Gw W0 s0 g vals (gK N B (r + 1)) wr):=Lib.hid (by rw [← HBR.out]; exact HG.out)
  go_wp2_with fail
  go_roundw
  case rel => exact ⟨r + 1,by omega,by go_num,H2⟩
  case measure => simp [intOf]; omega
 obtain rfl : r = nn + 1:=by omega
 have hle : ¬ ((nn + 1 : Nat) : Int) ≤ (nn : Int):=by omega
 go_wp2_with fail
 go_ret
 exact ⟨rfl,HG.out.o,HG.out.b⟩
end Go.Proofs.Ytcehklnonhalhaa
namespace Go.Proofs.Ytcehklnonhalhaa
open Go.RowKit
set_option maxRecDepth 4000
def inB (N : List Nd) (nn i : Nat) : List Bool:=((N.take i).map fun x => x.k == 1) ++ List.replicate (nn - i) false
theorem inB_len {N : List Nd} {nn i : Nat} (hl : N.length = nn) (hi : i ≤ nn) : (inB N nn i).length = nn:=by simp [inB]; omega
theorem inB_set {N : List Nd} {nn i : Nat} (hl : N.length = nn) {x : Nd} (hx : N[i]? = some x) : (inB N nn i).set i (x.k == 1) = inB N nn (i + 1):=by
 have hi : i < N.length:=(List.getElem?_eq_some_iff.1 hx).1
 obtain ⟨d,hd⟩ : ∃ d,nn - i = d + 1:=⟨nn - i - 1,by omega⟩
 have hd2 : nn - (i + 1) = d:=by omega
 unfold inB
 rw [hd,hd2,List.set_append_right _ _ (by simp; omega),List.take_add_one,hx,List.map_append,List.append_assoc]
 congr 1
 have e : i - (List.map (fun x => x.k == 1) (List.take i N)).length = 0:=by simp; omega
 rw [e]
 rfl
theorem inB_0 (N : List Nd) (nn : Nat) : inB N nn 0 = List.replicate nn false:=by simp [inB]
theorem inB_end {N : List Nd} {nn : Nat} (hl : N.length = nn) : inB N nn nn = N.map fun x => x.k == 1:=by
 unfold inB
 rw [List.take_of_length_le (by omega)]
 simp
theorem fed_in {N : List Nd} {I O : List Pt} {dd L : List Nat} (lx : LvN N I O dd L) {p : Nat} (hp : p < N.length) : (N.getD p nd0).k = 1 ↔ (p : Int) ∈ zah I:=by
 obtain ⟨_,_,_,_,hfed,_,_⟩:=od_of lx.lev
 unfold fedS at hfed
 have:=List.all_eq_true.1 hfed p (List.mem_range.2 hp)
 unfold zer at this
 have h:=of_decide_eq_true this
 rw [zcB hp] at h
 rw [← List.count_pos_iff]
 constructor
 ·intro k
  rw [if_pos k] at h
  omega
 intro k
 refine Classical.byContradiction fun n => ?_
 rw [if_neg n] at h
 omega
theorem zcR {N : List Nd} {I O : List Pt} {dd L : List Nat} (lx : LvN N I O dd L) : Plc N.length (zah I ++ zah O):=by
 have:=plc_ports (n:=N.length) (L:=I ++ O) (fun p hp => List.all_eq_true.1 lx.bits p hp)
 unfold zah at this ⊢
 rw [List.flatMap_append] at this
 exact this
theorem cnt_base {N : List Nd} {I O : List Pt} {dd L : List Nat} (lx : LvN N I O dd L) (p : Nat) : (setB (N.map fun x => x.k == 1) (zah O)).getD p false = true ↔ (p : Int) ∈ zah I ++ zah O:=by
 have hpl:=zcR lx
 have hat : ∀ q,q < N.length → ((N.map fun x => x.k == 1).getD q false = true ↔ (N.getD q nd0).k = 1):=fun q hq => by
  rw [List.getD_eq_getElem?_getD,List.getElem?_map,List.getD_eq_getElem?_getD,List.getElem?_eq_getElem hq]
  simp
 have hno : ∀ q,¬ q < N.length → ¬ (N.map fun x => x.k == 1).getD q false = true:=fun q hq h => by
  rw [List.getD_eq_getElem?_getD,List.getElem?_map,List.getElem?_eq_none (by omega)] at h
  cases h
 constructor
 ·intro h
  rcases setB_only _ _ _ h with h | ⟨y,hy,e⟩
  ·by_cases hp : p < N.length
   ·exact List.mem_append_left _ ((fed_in lx hp).1 ((hat p hp).1 h))
   exact absurd h (hno p hp)
  obtain ⟨m,rfl,_⟩:=hpl y (List.mem_append_right _ hy)
  rw [Int.toNat_natCast] at e
  subst e
  exact List.mem_append_right _ hy
 intro h
 obtain ⟨m,e,hm⟩:=hpl _ h
 obtain rfl : p = m:=by omega
 rcases List.mem_append.1 h with h | h
 ·exact zd2 _ _ _ ((hat p hm).2 ((fed_in lx hm).2 h))
 have:=setB_in (zah O) (N.map fun x => x.k == 1) _ h (by rw [Int.toNat_natCast,List.length_map]; exact hm)
 rw [Int.toNat_natCast] at this
 exact this
structure Gv (W0 : World) (g : Nat) (B : List Bool) (w : World) : Prop where
  o : Own w g 4 (B.map .bool)
  b : Below W0.heap.size W0 w
theorem Gv.put {W0 w : World} {g : Nat} {B : List Bool} (h : Gv W0 g B w) (hg : W0.heap.size ≤ g) (q : Nat) (u : Bool) : Gv W0 g (B.set q u) (w.setCell ⟨g,q,none⟩ (.bool u)):=⟨by rw [List.map_set]; exact h.o.put q _,h.b.setCell (p:=⟨g,q,none⟩) hg _⟩
theorem Gv.bit {W0 w : World} {g : Nat} {B : List Bool} (h : Gv W0 g B w) {i : Nat} {u : Bool} (hi : i < B.length) (hu : B.getD i false = u) : w.cell? ⟨g,i,none⟩ = some (.bool u):=by
 rw [h.o.cell i,List.getElem?_map,List.getElem?_eq_getElem hi]
 rw [List.getD_eq_getElem?_getD,List.getElem?_eq_getElem hi] at hu
 exact congrArg (fun b => some (Value.bool b)) hu
structure Nm (I O : List Pt) : Prop where
  nm : ∀ p ∈ I ++ O,p.name.size ≤ 1000000
  c : ∀ k : Nat,(zah (I.take k)).length ≤ 1000000
set_option maxRecDepth 20000 in
set_option maxHeartbeats 8000000 in
theorem rcount_yes {An Ai Ao : Option Addr} {nn cn ni ci no co : Nat} {N : List Nd} {I O : List Pt} {w : World} (h : Nt w An nn cn Ai ni ci Ao no co N I O) (hm : Nm I O) (hno : no ≤ 66) (hb : ∀ p ∈ I ++ O,p.bits.length ≤ 4000) {dd L : List Nat} (lx : LvN N I O dd L) :
  Calls Try.prog 29 #[.agg #[.slice An nn cn,.slice Ai ni ci,.slice Ao no co]] w fun en w' => (∃ g B,en = .returned (.tuple #[.slice (some ⟨g,0,none⟩) nn nn,.int .i64 0]) ∧ CtS N I O w' g nn B ∧ w.heap.size ≤ g) ∧ Below w.heap.size w w':=by
 have HB:=Lib.hid hb
 have LX:=Lib.hid lx
 have HM:=Lib.hid hm
 have H0:=Lib.hid h.n.1
 have HLO:=Lib.hid h.o.1
 have HU : Hid (∀ q,q < nn → Plc nn (zag (N.getD q nd0))):=Lib.hid (zcj (by rw [← H0.out]; exact LX.out.fm) H0.out)
 have HPL : Hid (Plc nn (zah I ++ zah O)):=Lib.hid (by rw [← H0.out]; exact zcR lx)
 have hnn:=h.hn
 clear hb lx hm
 go_enter Try.func29,Try.ntmps29
 go_upto_region 1 with fail
 obtain ⟨w1,e_w1,z0,BW⟩:=zmB w [.slice An nn cn,.slice Ai ni ci,.slice Ao no co] 25
 rw [e_w1]
 clear e_w1
 replace h:=h.on BW
 obtain ⟨c0,c1,c2⟩:=z0.zb3
 go_wp2_with fail
 refine (zcJ h HM.out.nm HM.out.c LX.out.lev).mono ?_
 rintro en w2 ⟨A,m,c,rfl,_,_,b⟩
 clear c0 c1 c2
 replace h:=h.on b
 replace z0:=z0.on b
 replace BW:=Below.step BW b
 clear b
 have c0:=z0.2 0 _ rfl
 go_upto_region 5 with (at_make; refine za2 _ rfl _ _ 48 rfl 4 (.bool false) 1 Try.underlying48 zcX rfl (by omega) _ nn rfl rfl rfl (by omega) ?_; intro w3 ho b3 hz3)
 rw [← List.map_replicate] at ho
 obtain ⟨g,hg⟩ : ∃ g,w2.heap.size = g:=⟨_,rfl⟩
 have H2 : w2.heap.size ≤ g:=Nat.le_of_eq hg
 have hgs : w.heap.size ≤ g:=Nat.le_trans BW.size H2
 rw [hg] at ho ⊢
 have HG : Hid (Gv w2 g (inB N nn 0) w3):=Lib.hid ⟨by rw [inB_0]; exact ho,b3⟩
 clear ho b3 hz3 hg c0
 go_wp2_with fail
 go_loopw [7] (fun iv wr => ∃ i : Nat,i ≤ nn ∧ iv = .int .i64 i ∧ Hid (Gv w2 g (inB N nn i) wr)) (fun iv _ => nn - (intOf iv).toNat)
 case atStart => exact ⟨0,by omega,rfl,HG⟩
 clear HG
 obtain ⟨i,hi,rfl,HG⟩:=hrel
 by_cases hin : i < nn
 ·have hi1 : (i : Int) < (nn : Int):=by omega
  have hi0 : (0 : Int) ≤ (i : Int):=by omega
  have c0:=(z0.on HG.out.b).2 0 _ rfl
  obtain ⟨bn,off,x1,x2,x3,x4,eA,HX,hA⟩:=h.n.nat hin
  subst eA
  have a1:=(hA.low hA.lt HG.out.b).c1
  have f1:=HG.out.o.free i
  obtain ⟨u0,hu0⟩ : ∃ u0,(inB N nn i).getD i false = u0:=⟨_,rfl⟩
  have a2:=HG.out.bit (i:=i) (by rw [inB_len H0.out (by omega)]; exact hin) hu0
  have H1 : Hid (Gv w2 g (inB N nn (i + 1)) (wr.setCell ⟨g,i,none⟩ (.bool (x1 == 1)))):=Lib.hid (by
   rw [← inB_set H0.out HX.out]
   exact HG.out.put H2 i (x1 == 1))
  clear hu0 hA
  go_wp2_with fail
  go_roundw
  case rel => exact ⟨i + 1,by omega,by go_num,H1⟩
  case measure => simp [intOf]; omega
 obtain rfl : i = nn:=by omega
 have hi1 : ¬ (i : Int) < (i : Int):=by omega
 have HG0 : Hid (Gv w2 g (setB (N.map fun x => x.k == 1) (zah (O.take 0))) wr):=Lib.hid (by
  have:=HG.out
  rw [inB_end H0.out] at this
  exact this)
 clear HG
 go_wp2_with fail
 go_loopw [8] (fun jv wr => ∃ j : Nat,j ≤ no ∧ jv = .int .i64 j ∧ Hid (Gv w2 g (setB (N.map fun x => x.k == 1) (zah (O.take j))) wr)) (fun jv _ => no - (intOf jv).toNat)
 case atStart => exact ⟨0,by omega,rfl,HG0⟩
 clear HG0
 obtain ⟨j,hj,rfl,HG⟩:=hrel
 have c2:=(z0.on HG.out.b).2 2 _ rfl
 by_cases hjn : j < no
 ·have hj1 : (j : Int) < (no : Int):=by omega
  have hj0 : (0 : Int) ≤ (j : Int):=by omega
  obtain ⟨⟨nm,bs⟩,hp⟩:=zat HLO.out hjn
  obtain ⟨b0,off,A',m',c',eA,h2,k1,k2,h5,h6,hbs⟩:=h.o.2 j ⟨nm,bs⟩ hp
  dsimp only at k2 hbs
  subst eA
  have HP:=Lib.hid hp
  obtain ⟨Bj,hBj⟩ : ∃ Bj,setB (N.map fun x => x.k == 1) (zah (O.take j)) = Bj:=⟨_,rfl⟩
  have HBJ : Hid (setB Bj bs = setB (N.map fun x => x.k == 1) (zah (O.take (j + 1)))):=Lib.hid (by
   rw [← hBj,← setB_app]
   congr 1
   rw [List.take_add_one,hp]
   unfold zah
   rw [List.flatMap_append]
   simp)
  have HBL : Hid (Bj.length = i):=Lib.hid (by rw [← hBj,zcg,List.length_map]; exact H0.out)
  have HBP : Hid (Plc i bs):=Lib.hid fun y hy => HPL.out y (List.mem_append_right _ (List.mem_flatMap.2 ⟨_,List.mem_of_getElem? hp,hy⟩))
  have hm4 : m' ≤ 4000:=by rw [← hbs.1]; exact HB.out _ (List.mem_append_right _ (List.mem_of_getElem? hp))
  have HBS:=Lib.hid hbs
  have HK2:=Lib.hid k2
  have HH2:=Lib.hid h2
  rw [hBj] at HG
  clear hp hBj hbs k1 k2 h6 h2
  go_wp2_with fail
  clear c2
  go_loopw [9] (fun kv wr => ∃ k : Nat,k ≤ m' ∧ kv = .int .i64 k ∧ Hid (Gv w2 g (setB Bj (bs.take k)) wr)) (fun kv _ => m' - (intOf kv).toNat)
  case atStart => exact ⟨0,by omega,rfl,HG⟩
  clear HG
  obtain ⟨k,hk,rfl,HG⟩:=hrel
  have c2:=(z0.on HG.out.b).2 2 _ rfl
  have p2:=(HG.out.b.cell (p:=⟨b0,off + j * 2 + 1,none⟩) HH2.out).trans HK2.out
  by_cases hkm : k < m'
  ·have hk1 : (k : Int) < (m' : Int):=by omega
   have hk0 : (0 : Int) ≤ (k : Int):=by omega
   obtain ⟨b3,o3,y,eY,HY,cy⟩:=(HBS.out.on HG.out.b).at hkm
   subst eY
   obtain ⟨m,rfl,hmn⟩:=HBP.out y (List.mem_of_getElem? HY.out)
   have hm0 : (0 : Int) ≤ (m : Int):=by omega
   have hm1 : (m : Int) < (i : Int):=by omega
   obtain ⟨um,hum⟩ : ∃ um,(setB Bj (bs.take k)).getD m false = um:=⟨_,rfl⟩
   have cm:=HG.out.bit (i:=m) (by rw [zcg,HBL.out]; exact hmn) hum
   have f1:=HG.out.o.free m
   have H1 : Hid (Gv w2 g (setB Bj (bs.take (k + 1))) (wr.setCell ⟨g,m,none⟩ (.bool true))):=Lib.hid (by
    have:=HG.out.put H2 m true
    rw [setB_snoc HY.out,Int.toNat_natCast]
    exact this)
   clear hum
   go_wp2_with fail
   go_roundw
   case rel => exact ⟨k + 1,by omega,by go_num,H1⟩
   case measure => simp [intOf]; omega
  obtain rfl : k = m':=by omega
  have hk1 : ¬ (k : Int) < (k : Int):=by omega
  have H1 : Hid (Gv w2 g (setB (N.map fun x => x.k == 1) (zah (O.take (j + 1)))) wr):=Lib.hid (by
   have:=HG.out
   rw [List.take_of_length_le (by rw [HBS.out.1]; exact Nat.le_refl _),HBJ.out] at this
   exact this)
  go_wp2_with fail
  go_roundw
  case rel => exact ⟨j + 1,by omega,by go_num,H1⟩
  case measure => simp [intOf]; omega
 obtain rfl : j = no:=by omega
 have hj1 : ¬ (j : Int) < (j : Int):=by omega
 have c0:=(z0.on HG.out.b).2 0 _ rfl; have c1:=(z0.on HG.out.b).2 1 _ rfl
 obtain ⟨B0,hB0⟩ : ∃ B0,setB (N.map fun x => x.k == 1) (zah (O.take j)) = B0:=⟨_,rfl⟩
 have H3 : Hid (B0.length = i ∧ ∀ p,B0.getD p false = true ↔ (p : Int) ∈ zah I ++ zah O):=Lib.hid ⟨by rw [← hB0,zcg,List.length_map]; exact H0.out,fun p => by
  rw [← hB0,List.take_of_length_le (by rw [HLO.out]; exact Nat.le_refl _)]
  exact cnt_base LX.out p⟩
 rw [hB0] at HG
 clear hB0
 go_wp2_with fail
 refine (rgrow_as h.n hnn HU.out HG.out.b H2 HG.out.o H3.out.1).mono ?_
 rintro en w5 ⟨rfl,ho5,b5⟩
 go_wp2_with fail
 go_ret2
 refine ⟨⟨g,gK N B0 (i + 1),rfl,⟨ho5,by rw [gK_len]; exact H3.out.1,fun p => ?_⟩,hgs⟩,Below.step BW b5⟩
 have e:=H0.out
 subst e
 rw [gK_all H3.out.1 HU.out]
 exact Rch.same H3.out.2 p
end Go.Proofs.Ytcehklnonhalhaa
