/-
  What the proofs of OptTells need: Yy Yw Yu.
-/
import Derived.Test.YtcehklnonhalhaaSTHR
import Derived.Test.YtcehklnonhalhaaSTJB
import Derived.Test.YtcehklnonhalhaaSTYr
import Derived.Test.YtcehklnonhalhaaSTLexG
import Derived.Test.YtcehklnonhalhaaSTYl
import Derived.Test.YtcehklnonhalhaaSTYo
set_option linter.unusedVariables false
namespace Go.Proofs.Ytcehklnonhalhaa
open Go.RowKit
set_option maxRecDepth 4000
structure CAt (w : World) (b o : Nat) (v : Value) : Prop where
  lt : b < w.heap.size
  c : w.cell? ⟨b,o,none⟩ = some v
theorem CAt.on {w w' : World} {b o : Nat} {v : Value} (h : CAt w b o v) (hb : Below w.heap.size w w') : CAt w' b o v:=⟨Nat.lt_of_lt_of_le h.lt hb.size,(hb.cell (p:=⟨b,o,none⟩) h.lt).trans h.c⟩
def Pa (L M : List Pt) : Prop:=M.length = L.length ∧ ∀ (j : Nat) (p q : Pt),L[j]? = some p → M[j]? = some q → q.name = p.name ∧ q.bits.length = p.bits.length
theorem Pa.self (L : List Pt) : Pa L L:=⟨rfl,fun j p q h k => by rw [h] at k; injection k with k; rw [k]; exact ⟨rfl,rfl⟩⟩
theorem Pa.map (f : Pt → Pt) (hf : ∀ p,(f p).name = p.name ∧ (f p).bits.length = p.bits.length) (L : List Pt) : Pa L (L.map f):=⟨List.length_map ..,fun j p q h k => by
 rw [List.getElem?_map,h] at k
 injection k with k
 rw [← k]
 exact hf p⟩
set_option maxRecDepth 4000
theorem Bx.n0 {w : World} {s : Nat} {a b c : Value} (z : Bx w s [a,b,c]) : w.cell? ⟨s,0,none⟩ = some a:=z.2 0 _ rfl
theorem Bx.n1 {w : World} {s : Nat} {a b c : Value} (z : Bx w s [a,b,c]) : w.cell? ⟨s,1,none⟩ = some b:=z.2 1 _ rfl
theorem Bx.n2 {w : World} {s : Nat} {a b c : Value} (z : Bx w s [a,b,c]) : w.cell? ⟨s,2,none⟩ = some c:=z.2 2 _ rfl
theorem idx_lt {N : List Nd} {L : List Nat} (hLm : ∀ i,i ∈ L ↔ i < N.length) : ∀ q,q < N.length → L.idxOf q < L.length:=fun q hq => (List.getElem?_eq_some_iff.1 (zdH ((hLm q).2 hq))).1
theorem zdx (S : List Int) (O : List Pt) : Pa O (O.map (outF S)):=Pa.map (outF S) (fun p => ⟨rfl,by unfold outF; exact List.length_map ..⟩) O
theorem zdy (S : List Int) (O : List Pt) : (O.map (outF S)).map Pt.name = O.map Pt.name:=by
 rw [List.map_map]
 rfl
structure RwA (N : List Nd) (I O : List Pt) (M : List Nd) (I2 O2 : List Pt) : Prop where
  lev : ∃ d2,zaB M I2 O2 = (some d2,0)
  fm : M.all (zaf M.length) = true
  bits : (I2 ++ O2).all (zaM M.length) = true
  all : ∃ g,All M g
  run : ∀ xss L L2,Odr N L → Odr M L2 → ze0 M I2 O2 (nI L2) xss = ze0 N I O (nI L) xss
theorem rw_all {N : List Nd} {I O : List Pt} {dd : List Nat} {pos : Nat → Nat} {i : Nat} {M : List Nd} {S : List Int} (hl : zaB N I O = (some dd,0)) (hp : Pos N pos) (h : RwN N pos i M S) (hall : ∀ q,q < N.length → pos q < i) : RwA N I O (M.map (dffS S)) I (O.map (outF S)):=by
 obtain ⟨_,_,hf,hb,_,_,_⟩:=od_of hl
 have hs:=h.same hp hall
 have H0 : (M.map (dffS S)).length = N.length:=by rw [List.length_map,h.lm]
 have hpl : ∀ p ∈ O,∀ q ∈ p.bits,zaj (N.length : Int) q = true:=fun p hp q hq => by
  have h1:=hb p (List.mem_append_right _ hp)
  unfold zaM at h1
  exact List.all_eq_true.1 (Bool.and_eq_true_iff.1 h1).2 q hq
 have hO2 : (O.map (outF S)).all (zaM N.length) = true:=by
  rw [List.all_eq_true]
  intro p hp
  obtain ⟨p0,hp0,rfl⟩:=List.mem_map.1 hp
  have h1:=hb p0 (List.mem_append_right _ hp0)
  unfold zaM at h1 ⊢
  rw [Bool.and_eq_true_iff] at h1 ⊢
  refine ⟨?_,?_⟩
  ·have:=of_decide_eq_true h1.1
   apply decide_eq_true
   unfold outF
   intro e
   exact this (List.map_eq_nil_iff.1 e)
  rw [List.all_eq_true]
  intro y hy
  unfold outF at hy
  obtain ⟨z,hz,rfl⟩:=List.mem_map.1 hy
  have hz:=hpl p0 hp0 z hz
  unfold zaj at hz
  simp at hz
  obtain ⟨m,rfl⟩:=Int.eq_ofNat_of_zero_le hz.1
  exact h.place hall (by omega)
 obtain ⟨d2,hd2,_⟩:=check_same hl hs (h.input hall) (zdy S O) hO2
 refine ⟨⟨d2,hd2⟩,hs.fm,?_,hs.all,fun xss L L2 ho ho2 => run_same hs ho ho2 hf (fun s inn u g1 g2 => h.outs hall hpl g1 g2) xss⟩
 rw [H0,List.all_append,Bool.and_eq_true_iff]
 exact ⟨List.all_eq_true.2 fun p hp => hb p (List.mem_append_left _ hp),hO2⟩
structure LvN (N : List Nd) (I O : List Pt) (dd L : List Nat) : Prop where
  lev : zaB N I O = (some dd,0)
  ord : ordO (some dd) = nI L
  nd : L.Nodup
  mem : ∀ i,i ∈ L ↔ i < N.length
  pos : Pos N (fun q => L.idxOf q)
  pl : ∀ p ∈ O,∀ q ∈ p.bits,zaj (N.length : Int) q = true
  fm : N.all (zaf N.length) = true
  bits : (I ++ O).all (zaM N.length) = true
  all : ∃ f,All N f
theorem lv_x {N : List Nd} {I O : List Pt} {dd : List Nat} (hl : zaB N I O = (some dd,0)) : ∃ L,LvN N I O dd L:=by
 obtain ⟨L,h1,h2,h3,h4⟩:=pos_of hl
 obtain ⟨_,_,hf,hb,_,ho,_⟩:=od_of hl
 refine ⟨L,hl,h1,h2,h3,h4,fun p hp q hq => ?_,hf,List.all_eq_true.2 hb,?_⟩
 ·have h1:=hb p (List.mem_append_right _ hp)
  unfold zaM at h1
  exact List.all_eq_true.1 (Bool.and_eq_true_iff.1 h1).2 q hq
 unfold zaB at hl
 split at hl
 ·injection hl with h1 h2
  cases h1
 split at hl
 ·rename_i d hd
  exact ⟨_,(zcA hd).2⟩
 injection hl with h1 h2
 cases h1
set_option maxRecDepth 4000
def mixF {α : Type} (f : α → α) (j : Nat) (L : List α) : List α:=(L.take j).map f ++ L.drop j
theorem zdB {α : Type} (f : α → α) (j : Nat) (L : List α) : (mixF f j L).length = L.length:=by unfold mixF; simp; omega
theorem ze9 {α : Type} (f : α → α) (L : List α) : mixF f 0 L = L:=by unfold mixF; simp
theorem zcp {α : Type} (f : α → α) (L : List α) : mixF f L.length L = L.map f:=by unfold mixF; simp
theorem zbJ {α : Type} (f : α → α) {j : Nat} {L : List α} (h : j < L.length) : (mixF f j L)[j]? = L[j]?:=by
 unfold mixF
 rw [List.getElem?_append_right (by simp; omega)]
 simp
 congr 1
 omega
theorem zbK {α : Type} (f : α → α) {j : Nat} {L : List α} {x : α} (h : L[j]? = some x) : mixF f (j + 1) L = (mixF f j L).set j (f x):=by
 obtain ⟨hj,hx⟩:=List.getElem?_eq_some_iff.1 h
 unfold mixF
 rw [List.set_append_right _ _ (by simp; omega),List.take_add_one,h]
 have : j - ((L.take j).map f).length = 0:=by simp; omega
 rw [this,List.drop_eq_getElem_cons hj,List.set_cons_zero,List.map_append]
 simp
theorem GD.put {w : World} {base n : Nat} {R : List Rp} {L : List Pt} (h : GD w base n R L) {j g i : Nat} {r : Rp} {p : Pt} (hj : j < n) (hr : R[j]? = some r) (hp : L[j]? = some p) (hA : r.A = some ⟨g,0,none⟩) (x : Int) : GD (w.setCell ⟨g,i,none⟩ (.int .i64 x)) base n R (L.set j ⟨p.name,p.bits.set i x⟩):=fun k r' p' hk hr' hp' => by
 obtain ⟨j1,j2⟩:=h j r p hj hr hp
 have own : (Value.slice r.A r.m r.c).ownBlock = some g:=by rw [hA]; rfl
 by_cases e : j = k
 ·subst e
  rw [hr] at hr'
  injection hr' with hr'
  subst hr'
  rw [List.getElem?_set_self (List.getElem?_eq_some_iff.1 hp).1] at hp'
  injection hp' with hp'
  subst hp'
  refine ⟨?_,j2⟩
  rw [hA] at j1 ⊢
  have:=(j1.stored i (.int .i64 x)).1
  rw [zca] at this
  exact this
 rw [List.getElem?_set_ne e] at hp'
 obtain ⟨k1,k2⟩:=h k r' p' hk hr' hp'
 refine ⟨k1.kept (zai _ _ _) (.inr fun q => ?_),k2⟩
 rcases Nat.lt_or_gt_of_ne e with e | e
 ·exact j2 k r' e hk hr' g own q
 exact k2 j r e hj hr g q own
theorem GD.other {w : World} {base n g : Nat} {R : List Rp} {L : List Pt} {cur : Array Value} {T : TypeId} {f : Nat × Nat} (h : GD w base n R L) (hg : w.heap[g]? = some (.cells cur T f)) (hT : 3 ≠ T) (o : Nat) (u : Value) : GD (w.setCell ⟨g,o,none⟩ u) base n R L:=fun k r p hk hr hp => by
 obtain ⟨h1,h2⟩:=h k r p hk hr hp
 refine ⟨h1.kept (zai _ _ _) ?_,h2⟩
 rcases h1.2 with ⟨e,_⟩ | ⟨g',cap,cur',e,_,hg',_⟩
 ·left; rw [e]; rfl
 right
 rw [e]
 intro q
 unfold Value.ownBlock at q
 injection q with q
 exact zaK hg' hg hT q
theorem zaI {w : World} {base size n g : Nat} {t T : TypeId} {v : Value} {xs : List Value} {cur : Array Value} {f : Nat × Nat} (h : w.ownsRow base t size v n xs) (hg : w.heap[g]? = some (.cells cur T f)) (hT : t ≠ T) (o : Nat) (u : Value) : (w.setCell ⟨g,o,none⟩ u).ownsRow base t size v n xs:=by
 refine h.kept (zai _ _ _) ?_
 rcases h.2 with ⟨e,_⟩ | ⟨g',cap,cur',e,_,hg',_⟩
 ·left; rw [e]; rfl
 right
 rw [e]
 intro q
 unfold Value.ownBlock at q
 injection q with q
 exact zaK hg' hg hT q
theorem GD.psH {w : World} {base n c : Nat} {A : Option Addr} {R : List Rp} {L : List Pt} (h : GD w base n R L) (hrow : w.ownsRow base 41 2 (.slice A n c) n (R.flatMap ptC)) (hRl : R.length = n) (hLl : L.length = n) (hnm : ∀ (k : Nat) (r : Rp) (p : Pt),R[k]? = some r → L[k]? = some p → r.name = p.name) : PsH base w A n L:=⟨hLl,fun k p hp => by
 have hk : k < n:=by rw [← hLl]; exact (List.getElem?_eq_some_iff.1 hp).1
 obtain ⟨r,hr⟩:=zat hRl hk
 obtain ⟨A0,c0,q0,_,hA0,hc0⟩:=zaP hrow
 injection q0 with qa qb qc
 subst qa qc
 obtain ⟨g,eA,hg,k1⟩:=hc0 (k * 2 + 0) (.string r.name) (by rw [zap ptC 2 zaL R k 0 (by omega),hr]; rfl)
 obtain ⟨g',eA',_,k2⟩:=hc0 (k * 2 + 1) (.slice r.A r.m r.c) (by rw [zap ptC 2 zaL R k 1 (by omega),hr]; rfl)
 subst eA
 injection eA' with eA'
 injection eA' with eA'
 subst eA'
 obtain ⟨A2,c2,e2,sw,hA2,hi⟩:=za4 (h k r p hk hr hp).1
 injection e2 with ea _ ec
 subst ea ec
 rw [hnm k r p hr hp] at k1
 exact ⟨g,0,r.A,r.m,r.c,rfl,(hA0 g 0 rfl).1,hg,by rw [Nat.zero_add]; exact k1,by rw [Nat.zero_add]; exact k2,⟨sw.1,sw.2.2⟩,sw.2.1,hi.isB fun b off e _ => (hA2 b off e).1⟩⟩
structure NtH (s : Nat) (w : World) (An : Option Addr) (nn cn : Nat) (Ai : Option Addr) (ni ci : Nat) (Ao : Option Addr) (no co : Nat) (N : List Nd) (I O : List Pt) : Prop where
  nt : Nt w An nn cn Ai ni ci Ao no co N I O
  an : AdOk (s ≤ ·) An
  ai : PsH s w Ai ni I
  ao : PsH s w Ao no O
set_option maxHeartbeats 8000000 in
theorem fold_yesH {An Ai Ao : Option Addr} {nn cn ni ci no co : Nat} {N : List Nd} {I O : List Pt} {w : World} (h : Nt w An nn cn Ai ni ci Ao no co N I O) (sn : Sw An nn cn) (hb : ∀ p ∈ I ++ O,p.bits.length ≤ 100000) {dd : List Nat} (hl : zaB N I O = (some dd,0)) {L : List Nat} (hO : ordO (some dd) = nI L) (hLn : L.Nodup) (hLm : ∀ i,i ∈ L ↔ i < N.length) (hp : Pos N (fun q => L.idxOf q)) (hpl : ∀ p ∈ O,∀ q ∈ p.bits,zaj (N.length : Int) q = true) : Calls Try.prog 17 #[.agg #[.slice An nn cn,.slice Ai ni ci,.slice Ao no co]] w fun en w' => (∃ Bn dn Bi di Bo do' M S,en = .returned (.tuple #[.agg #[.slice Bn nn dn,.slice Bi ni di,.slice Bo no do'],.int .i64 (chN S (M.map (dffS S)) N nn : Nat),.int .i64 0]) ∧ runF N L = (M,S) ∧ FI N (fun q => L.idxOf q) L.length M S ∧ NtH w.heap.size w' Bn nn dn Bi ni di Bo no do' (M.map (dffS S)) I (O.map (outF S)) ∧ Sw Bn nn dn) ∧ Below w.heap.size w w':=by
 have C : ∀ w',Nt w' An nn cn Ai ni ci Ao no co N I O → Calls Try.prog 39 #[.agg #[.slice An nn cn,.slice Ai ni ci,.slice Ao no co]] w' fun en w2 => FoX N L w'.heap.size en w2 ∧ Below w'.heap.size w' w2:=fun w' h' => folded_yes h' sn hb hl hO hLn hLm hp
 have HB:=Lib.hid hb
 have HLN:=Lib.hid h.n.1
 have HPL:=Lib.hid hpl
 clear hb hl hO hLn hLm hp hpl
 go_enter Try.func17,Try.ntmps17
 go_upto_region 1 with fail
 obtain ⟨w1,e_w1,z0,b1⟩:=zmB w [.slice An nn cn,.slice Ai ni ci,.slice Ao no co] 25
 have K8 : w1.heap.size = w.heap.size + 1:=e_w1 ▸ zal w _ rfl
 rw [e_w1]
 clear e_w1
 obtain ⟨s1,hs0⟩ : ∃ s1,w.heap.size + 1 = s1:=⟨_,rfl⟩
 rw [hs0] at K8 ⊢
 obtain ⟨w2,e_w2⟩ : ∃ w',w1.alloc (.cells #[.slice none 0 0,.slice none 0 0,.slice none 0 0] 25) = w':=⟨_,rfl⟩
 have ZR : Own w2 s1 25 [.slice none 0 0,.slice none 0 0,.slice none 0 0]:=by rw [← K8]; exact e_w2 ▸ Own.made w1 25 [.slice none 0 0,.slice none 0 0,.slice none 0 0]
 have b2 : Below w1.heap.size w1 w2:=e_w2 ▸ zaa _ _
 rw [e_w2]
 clear e_w2 K8
 replace z0:=z0.on b2
 have BW:=Below.step b1 b2
 replace h:=h.on BW
 clear b1 b2
 have hws : w.heap.size < s1:=by omega
 have H6 : s1 < w2.heap.size:=ZR.lt
 clear hs0
 obtain ⟨c0,c1,c2⟩:=z0.zb3
 go_upto_region 4 with (go_at_call 39; (with_reducible refine (C _ h).mono ?_); (rintro en w3 ⟨⟨p,vn,vs,M,S,rfl,hrun,FJ,FD⟩,b⟩; have hw23:=b.size; replace BW:=Below.step BW b; replace ZR:=ZR.below b ZR.lt; replace h:=h.on b; replace z0:=z0.on b; clear b c0 c1 c2))
 have Ke:=Lib.hid hrun
 have HFJ:=Lib.hid FJ
 have Ka : (M.map (dffS S)).length = nn:=by rw [List.length_map,FJ.lm,HLN.out]
 have K0:=Lib.hid Ka
 obtain ⟨Av,cv,eV,svn,kv,nv⟩:=zbj FD.rn
 obtain ⟨As,cs,eS,sss,ks,ns⟩:=za4 FD.rs
 rw [Ka] at eV eS svn sss
 subst eV eS
 have KV:=Lib.hid kv
 have KS:=Lib.hid ks
 clear hrun FJ Ka nv ns kv ks
 obtain ⟨c0,c1,c2⟩:=z0.zb3
 go_upto_region 5 with (go_at_call 40; (with_reducible refine (zew h sn HB.out).mono ?_); (rintro en wc ⟨Bn,dn,Bi,di,Bo,do',s,s2,Ro,rfl,hrowN,hlt,swn,swi,swo,hs,hw,hs2,hpi,hrowO,hRl,hRn,hGD,b⟩; clear c0 c1 c2))
 have hww:=BW.size
 have hw3s : w3.heap.size ≤ s:=hw
 replace hw : w3.heap.size ≤ s2:=Nat.le_trans hw hs
 replace BW:=Below.step BW b
 -- what the loops keep
 obtain ⟨s7,hs7⟩ : ∃ s7,wc.heap.size = s7:=⟨_,rfl⟩
 obtain ⟨w7,e_w7⟩ : ∃ w',wc.alloc (.cells #[.slice Bn nn dn,.slice Bi ni di,.slice Bo no do'] 25) = w':=⟨_,rfl⟩
 have ZM : Own w7 wc.heap.size 25 [.slice Bn nn dn,.slice Bi ni di,.slice Bo no do']:=e_w7 ▸ Own.made wc 25 [.slice Bn nn dn,.slice Bi ni di,.slice Bo no do']
 have b7 : Below wc.heap.size wc w7:=e_w7 ▸ zaa _ _
 rw [e_w7]
 clear e_w7
 have H8:=zam hrowO b7
 have Hy:=hGD.on b7
 have bc7 : Below s2 wc w7:=b7.mono hs2
 have B3 : Below w3.heap.size w3 w7:=Below.step b b7
 rw [hs7] at ZM hs2 ⊢
 clear hrowO hGD b b7 hs7
 have FD7:=FD.on B3
 have k0 : _ = some (Value.slice Av nn cv):=FD7.ow.cell 0
 have c0:=ZM.cell 0
 have f0:=ZM.free 0
 go_upto_region 6 with fail
 have hw7 : w3.heap.size ≤ s7:=by omega
 obtain ⟨w8,e_w8⟩ : ∃ w',w7.setCell ⟨s7,0,none⟩ (.slice Av nn cv) = w':=⟨_,rfl⟩
 have K3 : Own w8 s7 25 [.slice Av nn cv,.slice Bi ni di,.slice Bo no do']:=e_w8 ▸ ZM.put 0 (.slice Av nn cv)
 have bc8 : Below s2 wc w8:=e_w8 ▸ bc7.setCell (p:=⟨s7,0,none⟩) hs2 (.slice Av nn cv)
 have B38 : Below w3.heap.size w3 w8:=e_w8 ▸ B3.setCell (p:=⟨s7,0,none⟩) hw7 (.slice Av nn cv)
 have H7:=Lib.hid (e_w8 ▸ zaI H8 ZM (by decide) 0 (.slice Av nn cv) : w8.ownsRow s2 41 2 (.slice Bo no do') no (Ro.flatMap ptC))
 have Hx:=Lib.hid (e_w8 ▸ Hy.other ZM (by decide) 0 (.slice Av nn cv) : GD w8 s2 no Ro O)
 rw [e_w8]
 have ZMH:=Lib.hid K3
 have Hc : s2 ≤ w8.heap.size:=Nat.le_trans hs2 (Nat.le_of_lt K3.lt)
 have HRN:=Lib.hid hRn
 have HRL:=Lib.hid hRl
 have Hh : Hid (O.length = no):=Lib.hid h.o.1
 have hno : no ≤ 1000:=by have:=h.hs; omega
 have hnn : nn ≤ 100000:=h.hn
 clear e_w8 ZM bc7 B3 H8 Hy c0 f0 k0 FD7 hRn hRl
 have c2 : _ = some (Value.slice Bo no do'):=K3.cell 2
 have hBW3:=BW
 go_wp2_with fail
 clear c2 K3
 go_loopw [31] (fun i wr => ∃ j : Nat,j ≤ no ∧ i = .int .i64 j ∧ Hid (wr.ownsRow s2 41 2 (.slice Bo no do') no (Ro.flatMap ptC)) ∧ Hid (GD wr s2 no Ro (mixF (outF S) j O)) ∧ Hid (Own wr s7 25 [.slice Av nn cv,.slice Bi ni di,.slice Bo no do']) ∧ Below s2 w8 wr) (fun i _ => no - (intOf i).toNat)
 case atStart => exact ⟨0,Nat.zero_le _,rfl,H7,by rw [ze9]; exact Hx,ZMH,Below.refl _ _⟩
 clear H7 Hx ZMH
 obtain ⟨j,hj,rfl,H2,H1,H0,BR⟩:=hrel
 by_cases hlt : j < no
 ·obtain ⟨⟨nm,bs⟩,hp⟩:=zat Hh.out hlt
  obtain ⟨⟨rn,rA,rm,rc⟩,hr⟩:=zat HRL.out hlt
  obtain rfl : rn = nm:=HRN.out j _ _ hr hp
  have HP:=Lib.hid hp
  have HR:=Lib.hid hr
  have K2 : (mixF (outF S) j O)[j]? = some ⟨rn,bs⟩:=by rw [zbJ _ (by rw [Hh.out]; exact hlt)]; exact hp
  obtain ⟨g1,_⟩:=H1.out j _ _ hlt hr K2
  dsimp only at g1
  have Kb : bs.length = rm:=by have:=g1.1; rw [zas inC 1 zaC] at this; omega
  have K4:=Lib.hid Kb
  have hrm : rm ≤ 100000:=by rw [← Kb]; exact HB.out _ (List.mem_append_right _ (List.mem_of_getElem? hp))
  have HG9 : Hid (∀ g,rA = some ⟨g,0,none⟩ → g < wr.heap.size):=Lib.hid fun g e => (g1.lt g (by rw [e]; rfl)).2
  obtain ⟨A0,c0,q0,_,hl0,hc0⟩:=zaP H2.out
  injection q0 with qa qb qc
  subst qa qc
  obtain ⟨gp,eA,hg,k1⟩:=hc0 (j * 2 + 0) (.string rn) (by rw [zap ptC 2 zaL Ro j 0 (by omega),hr]; rfl)
  obtain ⟨gp',eA',_,k2⟩:=hc0 (j * 2 + 1) (.slice rA rm rc) (by rw [zap ptC 2 zaL Ro j 1 (by omega),hr]; rfl)
  subst eA
  injection eA' with eA'
  injection eA' with eA'
  subst eA'
  rw [Nat.add_zero] at k1
  have hjn : (j : Int) < (no : Int):=by omega
  have hj0 : (0 : Int) ≤ (j : Int):=by omega
  clear hp hr K2 g1 Kb hc0 hl0
  go_upto_region 9 with fail
  obtain ⟨w9,e_w9,z9,b9⟩:=zmB wr [.string rn,.slice rA rm rc] 41
  rw [e_w9]
  have Ht:=Lib.hid (zam H2.out b9)
  have Hw:=Lib.hid (H1.out.on b9)
  have Hs:=Lib.hid (H0.out.below b9 H0.out.lt)
  have Hl : s2 ≤ wr.heap.size:=Nat.le_trans Hc BR.size
  have BR9:=BR.trans (b9.mono Hl)
  obtain ⟨s9,hs9⟩ : ∃ s9,wr.heap.size = s9:=⟨_,rfl⟩
  rw [hs9] at z9 HG9 ⊢
  clear e_w9 k1 k2 b9 hs9 Hl H2 H1 H0
  have c1 : _ = some (Value.slice rA rm rc):=z9.2 1 _ rfl
  have hz9:=Lib.hid z9
  go_wp2_with fail
  clear c1
  go_loopw [38] (fun i wr => ∃ k : Nat,k ≤ rm ∧ i = .int .i64 k ∧ Hid (wr.ownsRow s2 41 2 (.slice (some ⟨gp,0,none⟩) no do') no (Ro.flatMap ptC)) ∧ Hid (GD wr s2 no Ro ((mixF (outF S) j O).set j ⟨rn,mixF (sA S) k bs⟩)) ∧ Hid (Own wr s7 25 [.slice Av nn cv,.slice Bi ni di,.slice (some ⟨gp,0,none⟩) no do']) ∧ Hid (Bx wr s9 [.string rn,.slice rA rm rc]) ∧ Below s2 w8 wr) (fun i _ => rm - (intOf i).toNat)
  case atStart =>
   refine ⟨0,Nat.zero_le _,rfl,Ht,?_,Hs,hz9,BR9⟩
   rw [ze9]
   have K2 : (mixF (outF S) j O)[j]? = some ⟨rn,bs⟩:=by rw [zbJ _ (by rw [Hh.out]; exact hlt)]; exact HP.out
   obtain ⟨h1,h2⟩:=List.getElem?_eq_some_iff.1 K2
   rw [← h2,List.set_getElem_self]
   exact Hw
  clear Ht Hw Hs hz9 z9 BR BR9
  obtain ⟨k,hk,rfl,H2,H1,H0,Hz,BR⟩:=hrel
  by_cases hkt : k < rm
  ·have Ha : ((mixF (outF S) j O).set j ⟨rn,mixF (sA S) k bs⟩)[j]? = some ⟨rn,mixF (sA S) k bs⟩:=List.getElem?_set_self (by rw [zdB,Hh.out]; exact hlt)
   obtain ⟨j1,_⟩:=H1.out j _ _ hlt HR.out Ha
   dsimp only at j1
   obtain ⟨g,rfl,hgs,_⟩ : ∃ g,rA = some ⟨g,0,none⟩ ∧ s2 ≤ g ∧ g < wr.heap.size:=by
    rcases row_own j1 with ⟨_,e,_⟩ | h
    ·omega
    exact h
   have hg9 : g < s9:=HG9.out g rfl
   obtain ⟨x,hx⟩ : ∃ x,bs[k]? = some x:=⟨_,List.getElem?_eq_getElem (by rw [K4.out]; exact hkt)⟩
   obtain ⟨m,rfl,hm⟩ : ∃ m : Nat,x = (m : Int) ∧ m < nn:=by
    have h1:=HPL.out _ (List.mem_of_getElem? HP.out) x (List.mem_of_getElem? hx)
    rw [HLN.out] at h1
    unfold zaj at h1
    simp at h1
    exact ⟨x.toNat,by omega,by omega⟩
   have a0 : wr.cell? ⟨g,k,none⟩ = some (Value.int .i64 (m : Int)):=(j1.cellAt k (by omega)).trans (by
    have e:=zap inC 1 zaC (mixF (sA S) k bs) k 0 (by omega)
    rw [Nat.mul_one,Nat.add_zero] at e
    rw [e,zbJ _ (by rw [K4.out]; exact hkt),hx]
    rfl)
   have H5:=FD.on (B38.trans (BR.mono hw))
   obtain ⟨A2,cc2,e2,_,_,N2⟩:=za4 H5.rs
   rw [K0.out] at e2 N2
   injection e2 with e2 _ e2'
   subst e2 e2'
   obtain ⟨b1,off1,eB,iB⟩:=N2.iat hm
   obtain rfl : off1 = 0:=(KS.out b1 off1 eB).2
   subst eB
   rw [Nat.zero_add] at iB
   have hb1 : b1 < w3.heap.size:=(FD.rs.lt b1 rfl).2
   have hpl : p < w3.heap.size:=FD.ow.lt
   obtain ⟨sv,hsv⟩ : ∃ sv,S.getD m 0 = sv:=⟨_,rfl⟩
   rw [hsv] at iB
   have HSV : Hid (sA S (m : Int) = sv):=Lib.hid (by unfold sA; rw [Int.toNat_natCast]; exact hsv)
   have HX:=Lib.hid hx
   have hkn : (k : Int) < (rm : Int):=by omega
   have hk0 : (0 : Int) ≤ (k : Int):=by omega
   have hm1 : (m : Int) < (nn : Int):=by omega
   have hm0 : (0 : Int) ≤ (m : Int):=by omega
   clear hsv hx N2
   go_upto_region 12 with fail
   have hp9 : p ≠ g:=by omega
   have h9g : s9 ≠ g:=by omega
   have h1g : b1 ≠ g:=by omega
   refine LexG.region_plan (KB3.ok p s9 b1) 0 [0,1,2,3,4,5,6,7,8,9,10,11] (h:=?_)
   dsimp only [LexG.pick,LexG.nth]
   have bd : Below wr.heap.size wr wr.drew:=(Below.refl _ _).drew
   replace H5:=H5.on bd
   replace iB:=iB.on bd
   replace H2:=Lib.hid (zam H2.out bd)
   replace H1:=Lib.hid (H1.out.on bd)
   replace H0:=Lib.hid (H0.out.below bd H0.out.lt)
   replace Hz:=Lib.hid (Hz.out.on bd)
   replace j1:=zam j1 bd
   have Hl : s2 ≤ wr.heap.size:=Nat.le_trans Hc BR.size
   replace BR:=BR.trans (bd.mono Hl)
   obtain ⟨w4,e4⟩ : ∃ w',wr.drew = w':=⟨_,rfl⟩
   rw [e4] at H5 iB H2 H1 H0 Hz j1 BR ⊢
   clear e4 bd a0 Hl
   have K7:=fun s : LexG.Wd (KB3 p s9 b1) w4 => (show s.w.cell? ⟨p,1,none⟩ = some (Value.slice (some ⟨b1,0,none⟩) nn cs) from (zac s.rel.1 1).trans (H5.ow.cell 1))
   have K6:=fun s : LexG.Wd (KB3 p s9 b1) w4 => (show s.w.cell? ⟨s9,1,none⟩ = some (Value.slice (some ⟨g,0,none⟩) rm rc) from (zac s.rel.2.1 1).trans (Hz.out.2 1 _ rfl))
   have K5:=fun s : LexG.Wd (KB3 p s9 b1) w4 => (show s.w.cell? ⟨b1,m,none⟩ = some (Value.int .i64 sv) from (zac s.rel.2.2 m).trans iB.2)
   refine LexG.lex_plain 11 (by kernel_rfl) ?_
   dsimp only [List.take,List.drop]
   repeat go_big_quiet_step (fail)
   refine wpQuiet_nil ?_
   clear K7 K6 K5
   have a1 : w4.cell? ⟨g,k,none⟩ = some (Value.int .i64 (m : Int)):=(j1.cellAt k (by omega)).trans (by
    have e:=zap inC 1 zaC (mixF (sA S) k bs) k 0 (by omega)
    rw [Nat.mul_one,Nat.add_zero] at e
    rw [e,zbJ _ (by rw [K4.out]; exact hkt),HX.out]
    rfl)
   have f1:=j1.frozenAt k
   refine LexG.lex_call (h:=fun K hK => ?_)
   go_simp
   clear a1 f1
   refine hK _ _ (KB3.set w4 hp9 h9g h1g k (.int .i64 sv)) ?_
   clear hK K
   obtain ⟨cu,hcu,_⟩:=zaJ j1
   have Kf:=Lib.hid (zaI H2.out hcu (by decide) k (.int .i64 sv))
   have Ha : ((mixF (outF S) j O).set j ⟨rn,mixF (sA S) k bs⟩)[j]? = some ⟨rn,mixF (sA S) k bs⟩:=List.getElem?_set_self (by rw [zdB,Hh.out]; exact hlt)
   have Hv:=H1.out.put (i:=k) hlt HR.out Ha rfl sv
   rw [List.set_set] at Hv
   dsimp only at Hv
   rw [← HSV.out,← zbK (sA S) HX.out,HSV.out] at Hv
   have Hi:=Lib.hid Hv
   have Kc:=Lib.hid (H0.out.apart (zaK H0.out hcu (by decide)) k (.int .i64 sv))
   have Kd:=Lib.hid (Hz.out.apart h9g k (.int .i64 sv))
   have BR':=BR.setCell (p:=⟨g,k,none⟩) hgs (.int .i64 sv)
   clear Hv Ha
   refine LexG.lex_nil ?_
   dsimp only [NoPanic]
   go_wp2_with fail
   go_roundw
   case rel => exact ⟨k + 1,by omega,by go_num,Kf,Hi,Kc,Kd,BR'⟩
   case measure => simp [intOf]; omega
  obtain rfl : k = rm:=by omega
  have hkn : ¬ (k : Int) < (k : Int):=by omega
  have Hi : Hid (GD wr s2 no Ro (mixF (outF S) (j + 1) O)):=Lib.hid (by
   have e:=zcp (sA S) bs
   rw [K4.out] at e
   rw [zbK (outF S) HP.out]
   have:=H1.out
   rw [e] at this
   exact this)
  go_wp2_with fail
  go_roundw
  case rel => exact ⟨j + 1,by omega,by go_num,H2,Hi,H0,BR⟩
  case measure => simp [intOf]; omega
 obtain rfl : j = no:=by omega
 have hjn : ¬ (j : Int) < (j : Int):=by omega
 have e:=zcp (outF S) O
 rw [Hh.out] at e
 rw [e] at H1
 clear e
 go_upto_region 15 with fail
 have K1:=B38.trans (BR.mono hw)
 have H5:=FD.on K1
 have Hu:=h.n.on K1
 have Hb:=z0.on K1
 have H9:=ZR.below K1 ZR.lt
 have hw3r:=K1.size
 have Hg:=hpi _ (fun b _ hb => (bc8.trans BR).block b hb) (Nat.le_trans Hc BR.size)
 have Hk:=H5.rn
 have Hj:=BW.trans ((bc8.trans BR).mono (by omega))
 have C9 : ∀ w',Fd w' w2.heap.size p (.slice Av nn cv) (.slice As nn cs) (M.map (dffS S)) S → Ns w' An nn N → Calls Try.prog 41 #[.pointer (some ⟨p,0,none⟩),.slice An nn cn] w' fun e w'' => e = .returned (.int .i64 (chN S (M.map (dffS S)) N nn : Nat)) ∧ Below w'.heap.size w' w'':=fun w' f n => by
  have:=changed_as (cn:=cn) f (N:=N) (An:=An) (by rw [K0.out]; exact n) (by rw [K0.out]; exact hnn)
  rw [K0.out] at this
  exact this
 have Hf : s7 ≠ s1:=by have:=ZR.lt; omega
 have H4 : w.heap.size ≠ s1:=by omega
 clear BR FD z0 ZR BW
 refine LexG.region_plan (KB3.ok s7 w.heap.size w.heap.size) 0 [0,1,2,3,4,5,6,7] (h:=?_)
 dsimp only [LexG.pick,LexG.nth]
 have bd : Below wr.heap.size wr wr.drew:=(Below.refl _ _).drew
 replace H5:=H5.on bd
 replace Hu:=Hu.on bd
 replace Hb:=Hb.on bd
 replace H9:=H9.below bd H9.lt
 replace H0:=Lib.hid (H0.out.below bd H0.out.lt)
 replace Hg:=Hg.on bd
 replace H2:=Lib.hid (zam H2.out bd)
 replace H1:=Lib.hid (H1.out.on bd)
 replace Hk:=zam Hk bd
 replace Hj:=Below.step Hj bd
 obtain ⟨w4,e4⟩ : ∃ w',wr.drew = w':=⟨_,rfl⟩
 rw [e4] at H5 Hu Hb H9 H0 Hg H2 H1 Hk Hj ⊢
 clear e4 bd
 have K7:=fun s : LexG.Wd (KB3 s7 w.heap.size w.heap.size) w4 => (show s.w.cell? ⟨s7,0,none⟩ = some (Value.slice Av nn cv) from (zac s.rel.1 0).trans (H0.out.cell 0))
 have K6:=fun s : LexG.Wd (KB3 s7 w.heap.size w.heap.size) w4 => (show s.w.cell? ⟨s7,1,none⟩ = some (Value.slice Bi ni di) from (zac s.rel.1 1).trans (H0.out.cell 1))
 have K5:=fun s : LexG.Wd (KB3 s7 w.heap.size w.heap.size) w4 => (show s.w.cell? ⟨s7,2,none⟩ = some (Value.slice Bo j do') from (zac s.rel.1 2).trans (H0.out.cell 2))
 have lf3:=fun s : LexG.Wd (KB3 s7 w.heap.size w.heap.size) w4 => (show s.w.cell? ⟨w.heap.size,0,none⟩ = some (Value.slice An nn cn) from (zac s.rel.2.1 0).trans (Hb.2 0 _ rfl))
 refine LexG.lex_plain 4 (by kernel_rfl) ?_
 dsimp only [List.take,List.drop]
 repeat go_big_quiet_step (fail)
 refine wpQuiet_nil ?_
 clear K7 K6 K5 lf3
 refine LexG.lex_call (h:=fun K hK => ?_)
 go_simp
 refine (C9 _ H5 Hu).mono ?_
 rintro en w5 ⟨rfl,b⟩
 dsimp only
 refine hK _ _ ⟨b.block _ H0.out.lt,b.block _ Hb.1,b.block _ Hb.1⟩ ?_
 clear hK K
 replace H9:=H9.below b H9.lt
 replace Hg:=Hg.on b
 replace H2:=Lib.hid (zam H2.out b)
 replace H1:=Lib.hid (H1.out.on b)
 replace Hk:=zam Hk b
 replace Hj:=Below.step Hj b
 clear b H5 Hu Hb H0
 obtain ⟨c0,c1,c2⟩:=H9.zo3
 obtain ⟨f0,f1,f2⟩:=H9.zof0f1f2
 refine LexG.lex_call (h:=fun K hK => ?_)
 go_simp
 clear c0 c1 c2 f0 f1 f2
 have kb:=(KB3.ok s7 w.heap.size w.heap.size).trans _ _ _ ((KB3.ok s7 w.heap.size w.heap.size).trans _ _ _ (KB3.set w5 Hf H4 H4 0 (.slice Av nn cv)) (KB3.set _ Hf H4 H4 1 (.slice Bi ni di))) (KB3.set _ Hf H4 H4 2 (.slice Bo j do'))
 refine hK _ _ kb ?_
 clear hK K kb
 have Hd : s1 < s:=by omega
 have H3 : s1 < s2:=by omega
 have VR:=H9.p3' (.slice Av nn cv) (.slice Bi ni di) (.slice Bo j do')
 obtain ⟨p0,p1,p2⟩:=VR.zo3
 have Hn:=zak (zak (zak Hk H6 0 (.slice Av nn cv)) H6 1 (.slice Bi ni di)) H6 2 (.slice Bo j do')
 have Hm:=zak (zak (zak H2.out H3 0 (.slice Av nn cv)) H3 1 (.slice Bi ni di)) H3 2 (.slice Bo j do')
 have Hr:=((H1.out.keepS H3 0 (.slice Av nn cv)).keepS H3 1 (.slice Bi ni di)).keepS H3 2 (.slice Bo j do')
 have He:=((Hg.far (zai w5 ⟨s1,0,none⟩ (.slice Av nn cv)) Hd).far (zai _ ⟨s1,1,none⟩ (.slice Bi ni di)) Hd).far (zai _ ⟨s1,2,none⟩ (.slice Bo j do')) Hd
 have hle : w.heap.size ≤ s1:=by omega
 have BW6:=Hj.e3' hle (.slice Av nn cv) (.slice Bi ni di) (.slice Bo j do')
 have K9:=Hr.psH Hm HRL.out (by rw [List.length_map]; exact Hh.out) (fun k r q hr hq => by
  rw [List.getElem?_map] at hq
  cases hq0 : O[k]? with
  | none => rw [hq0] at hq; cases hq
  | some q0 =>
   rw [hq0] at hq
   injection hq with hq
   rw [← hq]
   exact HRN.out k r q0 hr hq0)
 have hpn:=zbj Hn
 rw [K0.out] at hpn
 obtain ⟨A2,cc2,e2,_,hA2,N2⟩:=hpn
 injection e2 with e2 _ e2'
 subst e2 e2'
 have Hq : w.heap.size ≤ w2.heap.size:=by omega
 have Hp : w.heap.size ≤ s:=by omega
 have Ho : w.heap.size ≤ s2:=by omega
 have HNT : Hid (NtH w.heap.size (((w5.setCell ⟨s1,0,none⟩ (.slice Av nn cv)).setCell ⟨s1,1,none⟩ (.slice Bi ni di)).setCell ⟨s1,2,none⟩ (.slice Bo j do')) Av nn cv Bi ni di Bo j do' (M.map (dffS S)) I (O.map (outF S))):=Lib.hid ⟨⟨N2,He.ps,K9.ps,swi,swo,hnn,h.hs,fun q hq => by
  rcases List.mem_append.1 hq with hq | hq
  ·exact h.hb q (List.mem_append_left _ hq)
  obtain ⟨q0,hq0,rfl⟩:=List.mem_map.1 hq
  unfold outF
  rw [List.length_map]
  exact h.hb q0 (List.mem_append_right _ hq0)⟩,fun b off e => Nat.le_trans Hq (hA2 b off e).1,He.mono Hp,K9.mono Ho⟩
 have HBW:=Lib.hid BW6
 clear hA2 Hq Hp Ho BW6 K9 He Hr Hm Hn N2 Hg Hj VR
 refine LexG.lex_plain 2 (by kernel_rfl) ?_
 dsimp only [List.take,List.drop]
 repeat go_big_quiet_step (fail)
 refine wpQuiet_nil ?_
 refine LexG.lex_nil ?_
 dsimp only [NoPanic]
 go_wp2_with fail
 refine bodyPost_ret (v:=.tuple #[.agg #[.slice Av nn cv,.slice Bi ni di,.slice Bo j do'],.int .i64 (chN S (M.map (dffS S)) N nn : Nat),.int .i64 0]) (by simp [results,Try.results17,go_sem,p0,p1,p2]) rfl ?_
 exact ⟨⟨Av,cv,Bi,di,Bo,do',M,S,rfl,Ke.out,HFJ.out,HNT.out,svn⟩,HBW.out⟩
end Go.Proofs.Ytcehklnonhalhaa
