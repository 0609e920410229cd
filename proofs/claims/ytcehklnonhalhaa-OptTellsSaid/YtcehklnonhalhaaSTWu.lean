/-
  What the proofs of OptTells need: Wu Wv.
-/
import Derived.Test.YtcehklnonhalhaaSTWk
import Derived.Test.YtcehklnonhalhaaSTLexG
import Derived.Test.YtcehklnonhalhaaSTWl
import Derived.Deep.AppendLies
set_option linter.unusedVariables false
namespace Go.Proofs.Ytcehklnonhalhaa
open Go.RowKit
set_option maxRecDepth 4000
theorem wp_pushE {P : Program} {w : World} {o : Oper} {a : Act} {K : Act → World → Prop} {Q : Exit → Act → World → Prop} (s x : Operand) (t : TypeId)
  (ho : o.op = .call { callee:=.builtin .append,args:=#[s,x],argTypes:=#[t,t] }) {e : TypeId} {size bytes : Nat} (hE : Elm P t e size bytes) (hsz : 0 < size) (hby : bytes ≤ 64)
  (base : Nat) (v : Value) (n : Nat) (xs : List Value) (hs : a.eval s = v) (hown : w.ownsRow base e size v n xs) (g : Nat) (news : List Value) (hx : a.eval x = .slice (some ⟨g,0,none⟩) 1 1) (hz : Bx w g news)
  (hl : news.length = size) (h1 : ∀ u ∈ news,u.oneCell' = true) (hn : n + 1 ≤ 1000000) (hbase : base ≤ w.heap.size)
  (h : ∀ v' w',w'.ownsRow base e size v' (n + 1) (xs ++ news) → w.grownBy w' v.ownBlock → K (a.put o.dst v') w') : o.wp P a w K Q:=by
 obtain ⟨ht,i,z,hi,hz0,h3,h4,h5,_⟩:=hE
 refine wp_append_lies w s x t ho base e i z size bytes ht hi hz0 h3 h4 h5 hsz v n xs hs hown ⟨g,0,none⟩ 1 1 news hx (by omega) (fun j u hu => ?_) h1 (by omega) (by unfold maxLen; omega) ?_ hbase _ rfl fun g' cap w' r1 r2 _ _ => h _ w' r1 r2
 ·rw [zcG,Nat.zero_add]
  exact hz.2 j u hu
 have : (n + 1) * bytes ≤ 1000000 * 64:=Nat.mul_le_mul hn hby
 omega
structure Qb (w : World) (base : Nat) (R : List Rp) (I : List Pt) (P : List Int) (j : Nat) : Prop where
  len : R.length = j
  at_ : ∀ (k : Nat) (r : Rp) (p : Pt),R[k]? = some r → I[k]? = some p → r.name = p.name ∧ w.ownsRow base 3 1 (.slice r.A r.m r.c) r.m ((p.bits.map (sA P)).flatMap inC)
theorem Qb.on {w w' : World} {base : Nat} {R : List Rp} {I : List Pt} {P : List Int} {j : Nat} (h : Qb w base R I P j) (hb : Below w.heap.size w w') : Qb w' base R I P j:=⟨h.len,fun k r p h1 h2 => ⟨(h.at_ k r p h1 h2).1,zam (h.at_ k r p h1 h2).2 hb⟩⟩
theorem Qb.tk {w w' : World} {base : Nat} {R : List Rp} {I : List Pt} {P : List Int} {j : Nat} (h : Qb w base R I P j) (hb : TK 3 w w') : Qb w' base R I P j:=⟨h.len,fun k r p h1 h2 => ⟨(h.at_ k r p h1 h2).1,row_tk (h.at_ k r p h1 h2).2 hb⟩⟩
theorem Qb.snoc {w : World} {base : Nat} {R : List Rp} {I : List Pt} {P : List Int} {j : Nat} (h : Qb w base R I P j) {p : Pt} (hp : I[j]? = some p) {A : Option Addr} {m c : Nat} (hr : w.ownsRow base 3 1 (.slice A m c) m ((p.bits.map (sA P)).flatMap inC)) : Qb w base (R ++ [⟨p.name,A,m,c⟩]) I P (j + 1):=⟨by rw [List.length_append,h.len]; rfl,fun k r q h1 h2 => by
 by_cases hk : k < R.length
 ·rw [List.getElem?_append_left hk] at h1
  exact h.at_ k r q h1 h2
 have hl:=(List.getElem?_eq_some_iff.1 h1).1
 rw [List.length_append,List.length_singleton] at hl
 have e : k = R.length:=by omega
 subst e
 rw [List.getElem?_append_right (Nat.le_refl _),Nat.sub_self] at h1
 injection h1 with h1
 subst h1
 rw [h.len,hp] at h2
 injection h2 with h2
 subst h2
 exact ⟨rfl,hr⟩⟩
theorem Qb.ps {w : World} {base : Nat} {R : List Rp} {I : List Pt} {P : List Int} {n : Nat} (h : Qb w base R I P n) (hn : I.length = n) {A : Option Addr} (hR : PsR w A n R) (hA : ∀ b off,A = some ⟨b,off,none⟩ → base ≤ b ∧ off = 0) : PsH base w A n (I.map (outF P)):=⟨by rw [List.length_map]; exact hn,fun k p hp => by
 rw [List.getElem?_map] at hp
 cases hq : I[k]? with
 | none => rw [hq] at hp; cases hp
 | some q =>
  rw [hq] at hp
  injection hp with hp
  subst hp
  have hk:=(List.getElem?_eq_some_iff.1 hq).1
  obtain ⟨r,hr⟩ : ∃ r,R[k]? = some r:=⟨_,List.getElem?_eq_getElem (by rw [h.len]; omega)⟩
  obtain ⟨e,hrow⟩:=h.at_ k r q hr hq
  obtain ⟨b,off,h1,h2,h3,h4⟩:=hR.2 k r hr
  obtain ⟨A',c',e2,sw,hA2,hi⟩:=za4 hrow
  injection e2 with e3 e4 e5
  subst e3
  refine ⟨b,off,r.A,r.m,r.c,h1,(hA b off h1).1,h2,by rw [h3,e]; rfl,h4,⟨by rw [e5]; exact sw.1,fun k => by rw [e5]; exact sw.2.2 k⟩,by rw [e5]; exact sw.2.1,hi.isB fun b off e _ => (hA2 b off e).1⟩⟩
set_option maxRecDepth 20000 in
set_option maxHeartbeats 8000000 in
theorem zci {w : World} {A Ap : Option Addr} {n c nn cp : Nat} {I : List Pt} {P : List Int} (hI : Ps w A n I) (hn : n ≤ 66) (hb : ∀ p ∈ I,p.bits.length ≤ 4000) (hP : Is w Ap nn P) (hpl : ∀ p ∈ I,Plc nn p.bits) :
  Calls Try.prog 55 #[.slice A n c,.slice Ap nn cp] w fun en w' => ∃ Bo do',en = .returned (.slice Bo n do') ∧ PsH w.heap.size w' Bo n (I.map (outF P)) ∧ Sw Bo n do' ∧ Below w.heap.size w w':=by
 have HB4:=Lib.hid hb
 have HPL:=Lib.hid hpl
 have HLI:=Lib.hid hI.1
 have HLP:=Lib.hid hP.1
 clear hb hpl
 go_enter Try.func55,Try.ntmps55
 go_upto_region 2 with fail
 have hrow : (w.alloc (.cells #[] 41)).ownsRow w.heap.size 41 2 (.slice (some ⟨w.heap.size,0,none⟩) 0 0) 0 []:=World.ownsRow_lit w #[] 0 (Nat.le_refl _) (by unfold maxLen; omega) rfl
 have BW : Below w.heap.size w (w.alloc (.cells #[] 41)):=zaa _ _
 obtain ⟨w6,e_w6⟩ : ∃ w',w.alloc (.cells #[] 41) = w':=⟨_,rfl⟩
 rw [e_w6] at hrow BW ⊢
 obtain ⟨s6,hs6⟩ : ∃ s6,w.heap.size = s6:=⟨_,rfl⟩
 have HS6 : Hid (w.heap.size = s6):=Lib.hid hs6
 have H2 : Hid (w6.ownsRow w.heap.size 41 2 (.slice (some ⟨s6,0,none⟩) 0 0) 0 (([] : List Rp).flatMap ptC)):=Lib.hid (by rw [← HS6.out]; exact hrow)
 have HQ0 : Hid (Qb w6 w.heap.size [] I P 0):=Lib.hid ⟨rfl,fun k r p h => by cases h⟩
 have HB0:=Lib.hid BW
 have e0 : Value.slice (some ⟨w.heap.size,0,none⟩) 0 0 = Value.slice (some ⟨s6,0,none⟩) 0 0:=by rw [hs6]
 rw [e0]
 clear e0 e_w6 hrow BW hs6
 go_wp2_with fail
 go_loopw [5,6] (fun tv iv wr => ∃ (vt : Value) (j : Nat) (R : List Rp),vt = tv ∧ j ≤ n ∧ iv = .int .i64 j ∧ Hid (wr.ownsRow w.heap.size 41 2 vt j (R.flatMap ptC)) ∧ Hid (Qb wr w.heap.size R I P j) ∧ Hid (Below w.heap.size w wr)) (fun _ iv _ => n - (intOf iv).toNat)
 case atStart => exact ⟨_,0,[],rfl,Nat.zero_le _,rfl,H2,HQ0,HB0⟩
 clear H2 HQ0 HB0
 obtain ⟨vt,j,R,rfl,hj,rfl,HROW,HQ,HB⟩:=hrel
 by_cases hlt : j < n
 ·have hjn : (j : Int) < (n : Int):=by omega
  have hj0 : (0 : Int) ≤ (j : Int):=by omega
  obtain ⟨⟨nm,bs⟩,hp⟩:=zat HLI.out hlt
  obtain ⟨b0,off,A',m',c',eA,h2,k1,k2,h5,h6,hbs⟩:=(hI.on HB.out).2 j ⟨nm,bs⟩ hp
  dsimp only at k1 k2 hbs
  subst eA
  have HP:=Lib.hid hp
  have hm4 : m' ≤ 4000:=by rw [← hbs.1]; exact HB4.out _ (List.mem_of_getElem? hp)
  have HBP : Hid (Plc nn bs):=Lib.hid (HPL.out _ (List.mem_of_getElem? hp))
  clear hp
  go_upto_region 6 with fail
  have bl : Below wr.heap.size wr (wr.alloc (.cells #[.string nm,.slice none 0 0] 41)):=zaa _ _
  have ZP : Own (wr.alloc (.cells #[.string nm,.slice none 0 0] 41)) wr.heap.size 41 [.string nm,.slice none 0 0]:=Own.made wr 41 [.string nm,.slice none 0 0]
  obtain ⟨wx,e_wx⟩ : ∃ w',wr.alloc (.cells #[.string nm,.slice none 0 0] 41) = w':=⟨_,rfl⟩
  rw [e_wx] at bl ZP ⊢
  obtain ⟨sx,hsx⟩ : ∃ sx,wr.heap.size = sx:=⟨_,rfl⟩
  have hsr : wr.heap.size ≤ sx:=Nat.le_of_eq hsx
  rw [hsx] at ZP ⊢
  have H4:=Lib.hid hbs
  have K2 : CAt wr b0 (off + j * 2 + 1) (.slice A' m' c'):=⟨h2,k2⟩
  have H1:=Lib.hid ZP
  have H3 : Hid (wx.ownsRow wr.heap.size 3 1 (.slice none 0 0) 0 (((bs.take 0).map (sA P)).flatMap inC)):=Lib.hid (World.ownsRow_nil wx _ _ _)
  have H0:=Lib.hid bl
  clear e_wx bl ZP hsx k1 k2 h2 hbs h6
  obtain ⟨wo,rfl⟩ : ∃ x,x = wr:=⟨_,rfl⟩
  go_wp2_with fail
  go_loopw [8] (fun kv wt => ∃ (k : Nat) (vb : Value),k ≤ m' ∧ kv = .int .i64 k ∧ Hid (Own wt sx 41 [.string nm,vb]) ∧ Hid (wt.ownsRow wo.heap.size 3 1 vb k (((bs.take k).map (sA P)).flatMap inC)) ∧ Hid (Below wo.heap.size wo wt)) (fun kv _ => m' - (intOf kv).toNat)
  case atStart => exact ⟨0,_,Nat.zero_le _,rfl,H1,H3,H0⟩
  clear H1 H3 H0
  obtain ⟨k,vb,hk,rfl,H1,H3,H0⟩:=hrel
  have BW:=Lib.hid (HB.out.trans (H0.out.mono HB.out.size))
  have p2:=(K2.on H0.out).c
  by_cases hkm : k < m'
  ·have hk1 : (k : Int) < (m' : Int):=by omega
   have hk0 : (0 : Int) ≤ (k : Int):=by omega
   obtain ⟨b3,o3,eY,iY⟩:=(H4.out.on H0.out).iat hkm
   subst eY
   have hkl : k < bs.length:=by rw [H4.out.1]; exact hkm
   obtain ⟨m,hmy,hmn⟩:=HBP.out (bs.getD k 0) (igetD_mem hkl)
   have hy : bs[k]? = some (m : Int):=by rw [← hmy,List.getD_eq_getElem?_getD,List.getElem?_eq_getElem hkl]; rfl
   have HSN : Hid (((bs.take (k + 1)).map (sA P)).flatMap inC = ((bs.take k).map (sA P)).flatMap inC ++ [.int .i64 (sA P (m : Int))]):=Lib.hid (by
    rw [List.take_add_one,hy,List.map_append,List.flatMap_append]
    rfl)
   rw [hmy] at iY
   obtain ⟨bp,op,eP,iP⟩:=(hP.on BW.out).iat hmn
   subst eP
   rw [← zaS] at iP
   have hm0 : (0 : Int) ≤ (m : Int):=by omega
   have hm1 : (m : Int) < (nn : Int):=by omega
   obtain ⟨y,hyv⟩ : ∃ y,sA P (m : Int) = y:=⟨_,rfl⟩
   rw [hyv] at iP HSN
   have C2:=K2.on H0.out
   have Z:=H1.out
   have RB:=H3.out
   have BX:=H0.out
   clear hyv hmy hy BW
   go_upto_region 9 with fail
   clear p2
   refine LexG.region_planU LexG.below_ok [13] [0,1,2,3,4,5,6,7,8,9,10,11,12,13,14,15,16] (h:=?_)
   dsimp only [LexG.pick,LexG.nth]
   have bd : Below wr.heap.size wr wr.drew:=(Below.refl _ _).drew
   replace iY:=iY.on bd
   replace iP:=iP.on bd
   replace C2:=C2.on bd
   replace Z:=Z.below bd Z.lt
   replace RB:=zam RB bd
   replace BX:=Below.step BX bd
   obtain ⟨w4,e4⟩ : ∃ w',wr.drew = w':=⟨_,rfl⟩
   rw [e4] at iY iP C2 Z RB BX ⊢
   clear e4 bd H1 H3 H0
   have lf0:=fun s : LexG.Wd (fun w w' => Below w.heap.size w w') w4 => (show s.w.cell? ⟨sx,1,none⟩ = some vb from (Z.below s.rel Z.lt).cell 1)
   have lf1:=fun s : LexG.Wd (fun w w' => Below w.heap.size w w') w4 => (C2.on s.rel).c
   have lf2:=fun s : LexG.Wd (fun w w' => Below w.heap.size w w') w4 => (iY.on s.rel).2
   have lf3:=fun s : LexG.Wd (fun w w' => Below w.heap.size w w') w4 => (iP.on s.rel).2
   refine LexG.lexU_plain 13 (by kernel_rfl) (by kernel_rfl) ?_
   dsimp only [List.take,List.drop]
   repeat go_big_quiet_step (fail)
   refine wpQuiet_nil ?_
   clear lf0 lf1 lf2 lf3
   refine LexG.lexU_call (h:=fun K hK => ?_)
   go_simp
   refine hK _ _ (zaa _ _) ?_
   clear hK K
   have b5 : Below w4.heap.size w4 (w4.alloc (.cells #[.int .i64 y] 3)):=zaa _ _
   have Z5 : Bx (w4.alloc (.cells #[.int .i64 y] 3)) w4.heap.size [.int .i64 y]:=Bx.made_k w4 rfl #[.int .i64 y] 3
   obtain ⟨w5,e5⟩ : ∃ w',w4.alloc (.cells #[.int .i64 y] 3) = w':=⟨_,rfl⟩
   obtain ⟨s5,hs5⟩ : ∃ s5,w4.heap.size = s5:=⟨_,rfl⟩
   rw [e5] at b5 Z5 ⊢
   replace Z:=Z.below b5 Z.lt
   replace RB:=zam RB b5
   replace BX:=Below.step BX b5
   rw [hs5] at Z5 ⊢
   clear e5 hs5 b5 iY iP C2
   have hlx : wo.heap.size ≤ w5.heap.size:=BX.size
   refine LexG.lexU_last (h:=fun K hK => ?_)
   refine wp_pushE _ _ 39 rfl zbI (by omega) (by omega) wo.heap.size vb k _ rfl RB s5 [.int .i64 y] rfl Z5 rfl (fun u hu => by rw [List.mem_singleton.1 hu]; rfl) (by omega) hlx (fun v6 w6 R6 G6 => ?_)
   refine hK _ _ ?_
   dsimp only [Act.put]
   simp only [List.setIfInBounds_toArray,List.set_cons_succ,List.set_cons_zero]
   clear hK K
   have Z6:=zcV Z RB G6 (by decide)
   have B6:=BX.grown G6 BX.size (fun k hk => (RB.lt k hk).1)
   rw [← HSN.out] at R6
   obtain ⟨A6,c6,rfl,sw6,_⟩:=zaP R6
   have c1 : _ = some vb:=Z6.cell 1
   have f1:=Z6.free 1
   clear Z RB G6 BX Z5
   refine LexG.lexU_plain 1 (by kernel_rfl) (by kernel_rfl) ?_
   dsimp only [List.take,List.drop]
   repeat go_big_quiet_step (fail)
   refine wpQuiet_nil ?_
   refine LexG.lexU_last (h:=fun K hK => ?_)
   go_simp
   refine hK _ _ ?_
   clear hK K c1 f1
   refine LexG.lexU_nil ?_
   dsimp only [NoPanic]
   have Z7:=Z6.put 1 (.slice A6 (k + 1) c6)
   have R7:=zaI R6 Z6 (by decide) 1 (.slice A6 (k + 1) c6)
   have B7:=B6.setCell (p:=⟨sx,1,none⟩) hsr (.slice A6 (k + 1) c6)
   obtain ⟨w7,e7⟩ : ∃ w',w6.setCell ⟨sx,1,none⟩ (.slice A6 (k + 1) c6) = w':=⟨_,rfl⟩
   rw [e7] at Z7 R7 B7 ⊢
   have HZ7:=Lib.hid Z7
   have HR7:=Lib.hid R7
   have HB7:=Lib.hid B7
   clear e7 Z7 R7 B7 Z6 R6 B6
   go_wp2_with fail
   go_roundw
   case rel => exact ⟨k + 1,_,by omega,by go_num,HZ7,HR7,HB7⟩
   case measure => simp [intOf]; omega
  obtain rfl : k = m':=by omega
  have hk1 : ¬ (k : Int) < (k : Int):=by omega
  have c0 : _ = some (Value.string nm):=H1.out.cell 0
  have c1 : _ = some vb:=H1.out.cell 1
  have RB:=H3.out
  rw [List.take_of_length_le (by rw [H4.out.1]; exact Nat.le_refl _)] at RB
  obtain ⟨A5,c5,rfl,sw5,_⟩:=zaP RB
  have RO:=zam HROW.out H0.out
  have QO:=HQ.out.on H0.out
  have BW:=HB.out.trans (H0.out.mono HB.out.size)
  have hlw : wo.heap.size ≤ wr.heap.size:=H0.out.size
  have hlo : w.heap.size ≤ wo.heap.size:=HB.out.size
  go_upto_region 10 with fail
  obtain ⟨w8,e8,Z8,b8⟩:=zmB wr [.string nm,.slice A5 k c5] 41
  have R8:=zam RO b8
  have Q8:=QO.on b8
  have RB8:=zbY (zam RB b8) hlo
  have B8:=Below.step BW b8
  have hb8:=B8.size
  have cn8 : ∀ ad : Addr,(some ⟨wr.heap.size,0,none⟩ : Option Addr) = some ad → ∀ (j : Nat) (u : Value),(ptC ⟨nm,A5,k,c5⟩)[j]? = some u → w8.cell? (ad.add j) = some u:=fun ad e j u hu => by
   cases e
   rw [zcG,Nat.zero_add]
   exact Z8.2 j u hu
  have on8 : ∀ u ∈ ptC ⟨nm,A5,k,c5⟩,u.oneCell' = true:=fun u hu => by
   simp [ptC] at hu
   rcases hu with rfl | rfl <;> rfl
  have hn8 : j + 1 ≤ 1000000:=by omega
  clear H1 H3 H0 HROW HQ HB
  go_wp2_with (at_builtin; refine zax (A:=some ⟨wr.heap.size,0,none⟩) (m:=1) (c:=1) rfl _ _ 23 rfl zbW (by omega) (by omega) w.heap.size _ _ _ rfl R8 (ptC ⟨nm,A5,k,c5⟩) rfl (fun e => by cases e) rfl cn8 on8 hn8 hb8 ?_; intro v9 w9 R9 G9)
  have T9 : TK 3 w8 w9:=TK.row R8 G9 (by decide)
  have HQ9 : Hid (Qb w9 w.heap.size (R ++ [⟨nm,A5,k,c5⟩]) I P (j + 1)):=Lib.hid ((Q8.snoc (p:=⟨nm,bs⟩) HP.out RB8).tk T9)
  have HR9 : Hid (w9.ownsRow w.heap.size 41 2 v9 (j + 1) ((R ++ ([⟨nm,A5,k,c5⟩] : List Rp)).flatMap ptC)):=Lib.hid (by
   rw [List.flatMap_append]
   simpa using R9)
  have HB9:=Lib.hid (B8.grown G9 B8.size (fun k hk => (R8.lt k hk).1))
  clear R9 G9 T9 R8 Q8 RB8 B8 cn8 on8 hb8 Z8 b8 e8 RO QO RB BW
  go_roundw
  case rel => exact ⟨v9,j + 1,_,rfl,by omega,by go_num,HR9,HQ9,HB9⟩
  case measure => simp [intOf]; omega
 obtain rfl : j = n:=by omega
 have hjn : ¬ (j : Int) < (j : Int):=by omega
 obtain ⟨A6,c6,rfl,sw6,hA6,hps⟩:=row_ps HROW.out
 have HA6:=Lib.hid hA6
 clear hA6
 go_wp2_with fail
 go_ret
 exact ⟨A6,c6,rfl,HQ.out.ps HLI.out hps HA6.out,sw6,HB.out⟩
set_option maxRecDepth 4000
def byR (B : List Bool) (j : Nat) : List Int:=(List.range j).map fun i => (((kpQ B i).length : Nat) : Int)
theorem byR_len (B : List Bool) (j : Nat) : (byR B j).length = j:=by simp [byR]
theorem byR_s (B : List Bool) (j : Nat) : byR B (j + 1) = byR B j ++ [(((kpQ B j).length : Nat) : Int)]:=by unfold byR; rw [List.range_succ,List.map_append]; rfl
theorem kpQ_t {B : List Bool} {j : Nat} (h : B.getD j false = true) : (kpQ B (j + 1)).length = (kpQ B j).length + 1:=by rw [kpQ_s,if_pos h,List.length_append]; rfl
theorem kpQ_f {B : List Bool} {j : Nat} (h : B.getD j false = false) : (kpQ B (j + 1)).length = (kpQ B j).length:=by rw [kpQ_s,if_neg (by rw [h]; decide),List.append_nil]
theorem sA_by {N : List Nd} {B : List Bool} {n q : Nat} (hq : q ∈ kpQ B n) : sA (byR B n) (q : Int) = sA (plS N B n n) (q : Int):=by
 obtain ⟨h1,h2⟩:=zcq.1 hq
 rw [zaS,zaS]
 unfold byR plS
 rw [List.getD_eq_getElem?_getD,List.getElem?_map,List.getElem?_range h1,List.getD_eq_getElem?_getD,List.getElem?_map,List.getElem?_range h1]
 show (((kpQ B q).length : Nat) : Int) = if q < n then plF N B q else 0
 rw [if_pos h1]
 unfold plF
 rw [if_pos h2,kpL_Q,List.length_map]
theorem mv_m0 {P : List Int} {x : Nd} (h : zau x.k = 0) : mvN P x = x:=by
 unfold zau at h
 unfold mvN
 split at h
 ·cases h
 split at h
 ·cases h
 split at h
 ·cases h
 rename_i h1 h2 h3
 rw [if_neg h1,if_neg h2,if_neg h3]
theorem mv_m1 {P : List Int} {x : Nd} (h : zau x.k = 1) : mvN P x = ⟨x.k,sA P x.a,x.b,x.c⟩:=by
 unfold zau at h
 unfold mvN
 split at h
 ·rename_i h1
  rw [if_pos h1]
 split at h
 ·cases h
 split at h <;> cases h
theorem mv_m2 {P : List Int} {x : Nd} (h : zau x.k = 2) : mvN P x = ⟨x.k,sA P x.a,sA P x.b,x.c⟩:=by
 unfold zau at h
 unfold mvN
 split at h
 ·cases h
 split at h
 ·rename_i h1 h2
  rw [if_neg h1,if_pos h2]
 split at h <;> cases h
theorem mv_m3 {P : List Int} {x : Nd} (h : zau x.k = 3) : mvN P x = ⟨x.k,sA P x.a,sA P x.b,sA P x.c⟩:=by
 unfold zau at h
 unfold mvN
 split at h
 ·cases h
 split at h
 ·cases h
 split at h
 ·rename_i h1 h2 h3
  rw [if_neg h1,if_neg h2,if_pos h3]
 cases h
theorem mv_congr {P Q : List Int} {x : Nd} (h : ∀ y ∈ zag x,sA P y = sA Q y) : mvN P x = mvN Q x:=by
 have h3 : zau x.k = 0 ∨ zau x.k = 1 ∨ zau x.k = 2 ∨ zau x.k = 3:=by have:=zbM x.k; omega
 rcases h3 with e | e | e | e
 ·rw [mv_m0 e,mv_m0 e]
 ·rw [mv_m1 e,mv_m1 e,h x.a (by unfold zag; rw [e]; simp)]
 ·rw [mv_m2 e,mv_m2 e,h x.a (by unfold zag; rw [e]; simp),h x.b (by unfold zag; rw [e]; simp)]
 rw [mv_m3 e,mv_m3 e,h x.a (by unfold zag; rw [e]; simp),h x.b (by unfold zag; rw [e]; simp),h x.c (by unfold zag; rw [e]; simp)]
theorem by_nodes {N M : List Nd} {B : List Bool} {nn : Nat} (re : Re N M (kpQ B nn) (plS N B nn nn)) : (kpL N B nn).map (mvN (byR B nn)) = (kpL N B nn).map (mvN (plS N B nn nn)):=by
 rw [kpL_Q,List.map_map,List.map_map]
 refine List.map_congr_left fun q hq => mv_congr fun y hy => ?_
 obtain ⟨m,rfl,hm⟩:=re.cls q hq y hy
 exact sA_by hm
theorem by_ports {N : List Nd} {B : List Bool} {nn : Nat} {L : List Pt} (h : PK (kpQ B nn) L) : L.map (outF (byR B nn)) = L.map (outF (plS N B nn nn)):=by
 refine List.map_congr_left fun p hp => ?_
 unfold outF
 congr 1
 refine List.map_congr_left fun y hy => ?_
 obtain ⟨m,rfl,hm⟩:=h p hp y hy
 exact sA_by hm
theorem zbp {w : World} {base size n g : Nat} {t : TypeId} {v : Value} {xs : List Value} (h : w.ownsRow base t size v n xs) (hne : v.ownBlock ≠ some g) (o : Nat) (u : Value) : (w.setCell ⟨g,o,none⟩ u).ownsRow base t size v n xs:=h.kept (zai _ _ _) (.inr hne)
end Go.Proofs.Ytcehklnonhalhaa
