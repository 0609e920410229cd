/-
  What the proofs of OptTells need: Vf.
-/
import Derived.Test.YtcehklnonhalhaaSTVc
import Derived.Test.YtcehklnonhalhaaSTYl
set_option linter.unusedVariables false
namespace Go.Proofs.Ytcehklnonhalhaa
open Go.RowKit
open Go.Maps (Keyed)
set_option maxRecDepth 4000
attribute [local go_sem] zei
theorem ok_wf {n : Nat} {pos : Nat → Nat} {i : Nat} {x : Nd} (h : Ok (Pr n pos i) x) (hn : n ≤ 100000) : wfN x:=by
 have pr : ∀ {y : Int},Pr n pos i y → -1000000 ≤ y ∧ y ≤ 1000000:=fun h => by have h1:=h.1; have h2:=h.2.1; omega
 refine wfN_of fun v hv => ?_
 simp only [List.mem_cons,List.not_mem_nil,or_false] at hv
 rcases h.kd with ⟨e,h1,h2,h3⟩ | ⟨e,h1,h2,h3⟩ | ⟨e,h1,h2,h3⟩ | ⟨e,h1,h2,h3⟩
 ·rcases hv with rfl | rfl | rfl | rfl <;> omega
 ·rcases hv with rfl | rfl | rfl | rfl
  ·omega
  ·exact pr h1
  ·omega
  omega
 ·rcases hv with rfl | rfl | rfl | rfl
  ·omega
  ·exact pr h1
  ·exact pr h2
  omega
 rcases hv with rfl | rfl | rfl | rfl
 ·omega
 ·exact pr h1
 ·exact pr h2
 exact pr h3
theorem SI.look {N : List Nd} {pos : Nat → Nat} {i : Nat} {M : List Nd} {S : List Int} {F : Nd → Option Nat} (hp : Pos N pos) (h : SI N pos i M S F) {q : Nat} (hq : q < N.length) (hi : pos q = i) (hn : N.length ≤ 100000) : (isIO (M.getD q nd0) ∨ Ok (fun y => ∃ m : Nat,y = (m : Int) ∧ m < M.length) (M.getD q nd0)) ∧ (¬ isIO (M.getD q nd0) → wfN (keyS (zaG (S.set q (q : Int)) (M.getD q nd0)))):=by
 rw [h.old q hq (by omega),h.rw.lm]
 by_cases hio : isIO (N.getD q nd0)
 ·exact ⟨.inl hio,fun k => absurd hio k⟩
 have H0:=hp.at hq hio
 rw [hi] at H0
 refine ⟨.inr (H0.mono fun y hy => ?_),fun _ => ?_⟩
 ·obtain ⟨m,e,hm,_⟩:=hy.nat
  exact ⟨m,e,hm⟩
 rw [zd0 H0 (by omega)]
 refine ok_wf (pos:=pos) (i:=i) (keyS_ok (zda H0 fun y hy => ?_)) hn
 obtain ⟨m,rfl,hm,hpm⟩:=(H0.uses y hy).nat
 obtain ⟨g1,_⟩:=h.rw.st m hm (by omega)
 unfold sA
 rw [Int.toNat_natCast]
 exact g1.le (by omega)
section
variable {w : World} (o0 o1 o2 : Obj)
theorem al_2 : ((((w.alloc o0).alloc o1).alloc o2).drew).heap[w.heap.size + 1 + 1]? = some o2:=by
 have e : w.heap.size + 1 + 1 = ((w.alloc o0).alloc o1).heap.size:=by simp
 rw [e]
 exact heap_alloc_new _ _
theorem al_1 : ((((w.alloc o0).alloc o1).alloc o2).drew).heap[w.heap.size + 1]? = some o1:=by
 have e : w.heap.size + 1 = (w.alloc o0).heap.size:=by simp
 rw [e]
 exact (Below.heap_alloc ((w.alloc o0).alloc o1) o2 _ (by simp)).trans (heap_alloc_new _ _)
theorem al_0 : ((((w.alloc o0).alloc o1).alloc o2).drew).heap[w.heap.size]? = some o0:=
 (Below.heap_alloc ((w.alloc o0).alloc o1) o2 _ (by simp; omega)).trans ((Below.heap_alloc (w.alloc o0) o1 _ (by simp)).trans (heap_alloc_new _ _))
theorem al_b : Below w.heap.size w ((((w.alloc o0).alloc o1).alloc o2).drew):=(((Below.alloc (Below.alloc (Below.alloc (Below.refl _ _) (by simp) _) (by simp) _) (by simp; omega) _)).drew)
end
def ShM (w7 : World) (base : Nat) (vn : Value) (nn : Nat) (N : List Nd) (v : Value) (wx : World) : Prop:=∃ (p0 gs mb : Nat),v = .pointer (some ⟨p0,0,none⟩) ∧ Hid (Fk wx base p0 vn (.slice (some ⟨gs,0,none⟩) nn nn) mb 0 N (zI nn) (fun _ => none)) ∧ Hid (Below w7.heap.size w7 wx) ∧ w7.heap.size ≤ p0 ∧ w7.heap.size ≤ gs ∧ w7.heap.size ≤ mb
theorem zdu {w7 W : World} {base nn p0 gs mb : Nat} {vn : Value} {N : List Nd} (hrn : w7.ownsRow base 43 4 vn N.length (N.flatMap ndC)) (hl : N.length = nn) (hn : nn ≤ 100000) (hbs : base ≤ w7.heap.size) (hb : Below w7.heap.size w7 W) (ho : W.heap[p0]? = some (.cells #[vn,.slice (some ⟨gs,0,none⟩) nn nn,.map (some mb)] 85)) (hi : W.heap[gs]? = some (.cells ((zI nn).flatMap inC).toArray 3)) (hm : W.heap[mb]? = some (.map #[] 0)) (h1 : w7.heap.size ≤ p0) (h2 : w7.heap.size ≤ gs) (h3 : w7.heap.size ≤ mb) : ShM w7 base vn nn N (.pointer (some ⟨p0,0,none⟩)) W:=by
 subst hl
 refine ⟨p0,gs,mb,rfl,Lib.hid ⟨ho,zam hrn hb,zfa hi (Nat.le_trans hbs h2) hn,by simp [zI],Nat.le_trans hbs h1,⟨_,⟨#[],0,hm,⟨by simp,Go.MapKept.stamped_empty 0,by simp⟩,Nat.le_refl _,rfl⟩,Dn.start⟩,Nat.le_trans hbs h3⟩,Lib.hid hb,h1,h2,h3⟩
theorem row_cong {w w' : World} {base k sz : Nat} {e : TypeId} {v : Value} {xs : List Value} (h : w.ownsRow base e sz v k xs) (hh : ∀ b,base ≤ b → b < w.heap.size → w'.heap[b]? = w.heap[b]?) : w'.ownsRow base e sz v k xs:=by
 have hl:=h.lt
 refine ⟨h.1,?_⟩
 rcases h.2 with h1 | ⟨g,cap,cur,rfl,h2,h3,h4⟩
 ·exact .inl h1
 exact .inr ⟨g,cap,cur,rfl,h2,(hh g (hl g rfl).1 (hl g rfl).2).trans h3,h4⟩
theorem GD.cong {w w' : World} {base j : Nat} {R : List Rp} {L : List Pt} (h : GD w base j R L) (hh : ∀ b,base ≤ b → b < w.heap.size → w'.heap[b]? = w.heap[b]?) : GD w' base j R L:=fun k r p hk hr hp => ⟨row_cong (h k r p hk hr hp).1 hh,(h k r p hk hr hp).2⟩
def runK (N : List Nd) (L : List Nat) : List Nd × List Int × (Nd → Option Nat):=L.foldl zbi (N,zI N.length,fun _ => none)
theorem zd5 (N : List Nd) {L : List Nat} {j q : Nat} (h : L[j]? = some q) : runK N (L.take (j + 1)) = zbi (runK N (L.take j)) q:=by
 unfold runK
 rw [List.take_add_one,h,List.foldl_append]
 rfl
set_option maxHeartbeats 8000000 in
theorem share_yesH {An Ai Ao : Option Addr} {nn cn ni ci no co : Nat} {N : List Nd} {I O : List Pt} {w : World} (h : Nt w An nn cn Ai ni ci Ao no co N I O) (sn : Sw An nn cn) (hb : ∀ p ∈ I ++ O,p.bits.length ≤ 100000) {dd L : List Nat} (lx : LvN N I O dd L) : Calls Try.prog 23 #[.agg #[.slice An nn cn,.slice Ai ni ci,.slice Ao no co]] w fun en w' => (∃ Bn dn Bi di Bo do' M S F,en = .returned (.tuple #[.agg #[.slice Bn nn dn,.slice Bi ni di,.slice Bo no do'],.int .i64 (chS S nn : Nat),.int .i64 0]) ∧ runK N L = (M,S,F) ∧ SI N (fun q => L.idxOf q) L.length M S F ∧ NtH w.heap.size w' Bn nn dn Bi ni di Bo no do' (M.map (dffS S)) I (O.map (outF S)) ∧ Sw Bn nn dn) ∧ Below w.heap.size w w':=by
 have LX:=Lib.hid lx
 have HB:=Lib.hid hb
 have H4:=Lib.hid h.n.1
 have HPL:=Lib.hid lx.pl
 clear hb lx
 go_enter Try.func23,Try.ntmps23
 go_upto_region 1 with fail
 obtain ⟨w1,e_w1,z0,b1⟩:=zmB w [.slice An nn cn,.slice Ai ni ci,.slice Ao no co] 25
 have Kk : w1.heap.size = w.heap.size + 1:=e_w1 ▸ zal w _ rfl
 rw [e_w1]
 clear e_w1
 obtain ⟨s1,hs0⟩ : ∃ s1,w.heap.size + 1 = s1:=⟨_,rfl⟩
 rw [hs0] at Kk ⊢
 obtain ⟨w2,e_w2⟩ : ∃ w',w1.alloc (.cells #[.slice none 0 0,.slice none 0 0,.slice none 0 0] 25) = w':=⟨_,rfl⟩
 have ZR : Own w2 s1 25 [.slice none 0 0,.slice none 0 0,.slice none 0 0]:=by rw [← Kk]; exact e_w2 ▸ Own.made w1 25 [.slice none 0 0,.slice none 0 0,.slice none 0 0]
 have b2 : Below w1.heap.size w1 w2:=e_w2 ▸ zaa _ _
 rw [e_w2]
 clear e_w2 Kk
 replace z0:=z0.on b2
 have BW:=Below.step b1 b2
 replace h:=h.on BW
 clear b1 b2
 have hws : w.heap.size < s1:=by omega
 have hs1w2 : s1 < w2.heap.size:=ZR.lt
 clear hs0
 obtain ⟨c0,c1,c2⟩:=z0.zb3
 go_upto_region 4 with (go_at_call 49; (with_reducible refine (order_as h LX.out.lev).mono ?_); (rintro en w3 ⟨Ao',mo,co',rfl,hI,hmc,b⟩; have hw23:=b.size; replace BW:=Below.step BW b; replace ZR:=ZR.below b ZR.lt; replace h:=h.on b; replace z0:=z0.on b; clear b c0 c1 c2))
 have hmo : mo = L.length:=by
  have:=hI.1
  rw [LX.out.ord] at this
  unfold nI at this
  rw [← this,List.length_map]
 subst hmo
 rw [LX.out.ord] at hI
 obtain ⟨c0,c1,c2⟩:=z0.zb3
 go_upto_region 5 with (go_at_call 40; (with_reducible refine (zew h sn HB.out).mono ?_); (rintro en wcl ⟨Bn,dn,Bi,di,Bo,do',s,s2,Ro,rfl,hrowN,hlt,swn,swi,swo,hs,hw3s,hs2,hpi,hrowO,hRl,hRn,hGD,b⟩; clear c0 c1 c2))
 have hww:=BW.size
 have Ku:=Lib.hid BW
 replace BW:=Below.step BW b
 have hw : w3.heap.size ≤ s2:=Nat.le_trans hw3s hs
 obtain ⟨s7,hs7⟩ : ∃ s7,wcl.heap.size = s7:=⟨_,rfl⟩
 obtain ⟨w7,e_w7⟩ : ∃ w',wcl.alloc (.cells #[.slice Bn nn dn,.slice Bi ni di,.slice Bo no do'] 25) = w':=⟨_,rfl⟩
 have ZM : Own w7 wcl.heap.size 25 [.slice Bn nn dn,.slice Bi ni di,.slice Bo no do']:=e_w7 ▸ Own.made wcl 25 [.slice Bn nn dn,.slice Bi ni di,.slice Bo no do']
 have b7 : Below wcl.heap.size wcl w7:=e_w7 ▸ zaa _ _
 rw [e_w7]
 have Hb:=zam hrowN b7
 have B37 : Below w3.heap.size w3 w7:=Below.step b b7
 rw [hs7] at ZM ⊢
 clear e_w7
 have hmm:=@run_makeMap Try.prog
 have z7 : Bx w7 s7 [.slice Bn nn dn,.slice Bi ni di,.slice Bo no do']:=⟨ZM.lt,fun i u hu => (ZM.cell i).trans hu⟩
 have Hi:=h.hn
 have K1 : w7.ownsRow w3.heap.size 43 4 (.slice Bn nn dn) N.length (N.flatMap ndC):=by rw [H4.out]; exact Hb
 have H0 : w3.heap.size ≤ w7.heap.size:=B37.size
 have H3:=Lib.hid K1
 clear K1 Hb hrowN
 go_cut [8] (fun v wx => ShM w7 w3.heap.size (.slice Bn nn dn) nn N v wx)
 case first =>
  have bd : Below w7.heap.size w7 w7.drew:=(Below.refl _ _).drew
  replace z7:=z7.on bd
  go_region_held3 (fun w' => w'.cell? ⟨s7,0,none⟩ = some (.slice Bn nn dn))
   ((first | with_reducible exact z7.n0 | exact (z7.on (zaa _ _)).n0 | exact ((z7.on (zaa _ _)).on (zaa _ _)).n0 | exact (((z7.on (zaa _ _)).on (zaa _ _)).on (zaa _ _)).n0 | exact (z7.on (Below.alloc (Below.alloc (Below.alloc (Below.refl _ _) (by simp) _) (by simp) _) (by simp) _)).n0 | exact (z7.on (Below.setCell (Below.setCell (Below.setCell (Below.alloc (Below.alloc (Below.alloc (Below.refl _ _) (by simp) _) (by simp) _) (by simp) _) (by simp) _) (by simp) _) (by simp) _)).n0))
   (fail)
  all_goals go_wp2_with fail
  all_goals go_meet
  all_goals first
   | exact zdu H3.out H4.out Hi H0 (al_b _ _ _) (al_2 _ _ _) (al_0 _ _ _) (al_1 _ _ _) (by omega) (by omega) (by omega)
   | exact zdu H3.out H4.out Hi H0 (al_b _ _ _) (al_2 _ _ _) (al_1 _ _ _) (al_0 _ _ _) (by omega) (by omega) (by omega)
   | exact zdu H3.out H4.out Hi H0 (al_b _ _ _) (al_1 _ _ _) (al_0 _ _ _) (al_2 _ _ _) (by omega) (by omega) (by omega)
   | exact zdu H3.out H4.out Hi H0 (al_b _ _ _) (al_1 _ _ _) (al_2 _ _ _) (al_0 _ _ _) (by omega) (by omega) (by omega)
   | exact zdu H3.out H4.out Hi H0 (al_b _ _ _) (al_0 _ _ _) (al_1 _ _ _) (al_2 _ _ _) (by omega) (by omega) (by omega)
   | exact zdu H3.out H4.out Hi H0 (al_b _ _ _) (al_0 _ _ _) (al_2 _ _ _) (al_1 _ _ _) (by omega) (by omega) (by omega)
 obtain ⟨p0,gs,mb,rfl,HFK,HBX,hp7,hg7,hm7⟩:=hcut
 obtain ⟨wx,rfl⟩ : ∃ x,x = wc:=⟨_,rfl⟩
 have hm1 : L.length ≤ 100000:=by
  have:=zcm N.length L LX.out.nd (fun x hx => (LX.out.mem x).1 hx)
  have:=H4.out
  omega
 have Ko : ∀ b,(Value.slice Bn nn dn).ownBlock = some b → w3.heap.size ≤ b ∧ b < s:=fun b e => ⟨(H3.out.lt b e).1,hlt b e⟩
 have Kv:=Lib.hid Ko
 have Hh : s7 < w7.heap.size:=ZM.lt
 have hX3 : Below w3.heap.size w3 wx:=B37.trans (HBX.out.mono H0)
 have hT3 : ∀ x,tS (.slice Bn nn dn) (.slice (some ⟨gs,0,none⟩) nn nn) mb x → w3.heap.size ≤ x:=fun x hx => by
  rcases hx with h | h | h
  ·exact (Ko x h).1
  ·have : gs = x:=by injection h
   omega
  omega
 have HT3:=Lib.hid hT3
 have HX3:=Lib.hid hX3
 clear Ko hT3 hX3 hmm z7
 apply_assumption
 go_step
 go_wp2_with fail
 go_loopw [36] (fun i wr => ∃ (j n : Nat) (M : List Nd) (S : List Int) (F : Nd → Option Nat),j ≤ L.length ∧ i = .int .i64 j ∧ Hid (runK N (L.take j) = (M,S,F)) ∧ Hid (SI N (fun q => L.idxOf q) j M S F) ∧ n ≤ j ∧ Hid (Fk wr w3.heap.size p0 (.slice Bn nn dn) (.slice (some ⟨gs,0,none⟩) nn nn) mb n M S F) ∧ Hid (Kx (tS (.slice Bn nn dn) (.slice (some ⟨gs,0,none⟩) nn nn) mb) wx wr)) (fun i _ => L.length - (intOf i).toNat)
 case atStart => exact ⟨0,0,N,zI nn,_,Nat.zero_le _,rfl,Lib.hid (by rw [← H4.out]; rfl),Lib.hid (by rw [← H4.out]; exact SI.start),Nat.le_refl _,HFK,Lib.hid (Kx.refl _ _)⟩
 obtain ⟨j,n,M,S,F,hj,rfl,HRUN,HSI,hnj,HF,HK⟩:=hrel
 have hMl : M.length = nn:=by rw [HSI.out.rw.lm,H4.out]
 by_cases hlt2 : j < L.length
 ·have Kn : (j : Int) < (L.length : Int):=by omega
  have hj0 : (0 : Int) ≤ (j : Int):=by omega
  obtain ⟨q,hq⟩ : ∃ q,L[j]? = some q:=⟨_,List.getElem?_eq_getElem hlt2⟩
  have Kl : q < N.length:=(LX.out.mem q).1 (List.mem_of_getElem? hq)
  have Hv : L.idxOf q = j:=zdo LX.out.nd hq
  have Kd : Below w3.heap.size w3 wr:=HX3.out.trans (HK.out.below (Nat.le_trans H0 HBX.out.size) HT3.out)
  obtain ⟨bo,off,eA,iA⟩:=(hI.on Kd).iat hlt2
  have eq : (nI L).getD j 0 = (q : Int):=by
   unfold nI
   rw [List.getD_eq_getElem?_getD,List.getElem?_map,hq]
   rfl
  rw [eq] at iA
  obtain ⟨hx,hwf⟩:=HSI.out.look LX.out.pos Kl Hv (by rw [H4.out]; exact Hi)
  have C : ∀ w',Fk w' w3.heap.size p0 (.slice Bn nn dn) (.slice (some ⟨gs,0,none⟩) nn nn) mb n M S F → Calls Try.prog 50 #[.pointer (some ⟨p0,0,none⟩),.int .i64 (q : Int)] w' fun e w'' => e = .returned (.tuple #[]) ∧ (∃ n',n' ≤ n + 1 ∧ Fk w'' w3.heap.size p0 (.slice Bn nn dn) (.slice (some ⟨gs,0,none⟩) nn nn) mb n' (zbi (M,S,F) q).1 (zbi (M,S,F) q).2.1 (zbi (M,S,F) q).2.2) ∧ Kx (tS (.slice Bn nn dn) (.slice (some ⟨gs,0,none⟩) nn nn) mb) w' w'':=fun w' hf => slook_as hf (by rw [hMl,← H4.out]; exact Kl) (by omega) (by omega) hx hwf
  have HS2:=Lib.hid (HSI.out.step LX.out.pos Kl Hv)
  have HR2:=Lib.hid (zd5 N hq)
  have hf:=HF.out
  clear hx hwf eq hq
  subst eA
  have iA2:=iA.2
  go_wp2_with (go_at_call 50; (with_reducible refine (C _ hf).mono ?_); (rintro en wl ⟨rfl,⟨n',hn',FD2⟩,kl⟩; clear iA2))
  have Hs : Hid (runK N (L.take (j + 1)) = ((zbi (M,S,F) q).1,(zbi (M,S,F) q).2.1,(zbi (M,S,F) q).2.2)):=Lib.hid (by rw [HR2.out,HRUN.out])
  have HK2:=Lib.hid (HK.out.trans kl)
  have HF2:=Lib.hid FD2
  go_roundw
  case rel => exact ⟨j + 1,n',_,_,_,by omega,by go_num,Hs,HS2,by omega,HF2,HK2⟩
  case measure => simp [intOf]; omega
 obtain rfl : j = L.length:=by omega
 have Kn : ¬ (L.length : Int) < (L.length : Int):=by omega
 have Hf:=idx_lt LX.out.mem
 have HALL:=Lib.hid Hf
 have hd : ∀ q,q < M.length → (M.getD q nd0).k = 7 → ∃ m : Nat,(M.getD q nd0).a = (m : Int) ∧ m < M.length:=fun q hq h7 => by
  rw [HSI.out.rw.lm] at hq ⊢
  have Ka : isIO (N.getD q nd0):=by
   by_cases Ka : isIO (N.getD q nd0)
   ·exact Ka
   exact absurd (.inr h7) (HSI.out.rw.ok q hq (Hf q hq) Ka).io
  rw [(HSI.out.rw.io q hq (Hf q hq) Ka).1] at h7 ⊢
  exact zcE (List.all_eq_true.1 LX.out.pos.fm _ (zey hq)) h7
 have C : ∀ w',Fk w' w3.heap.size p0 (.slice Bn nn dn) (.slice (some ⟨gs,0,none⟩) nn nn) mb n M S F → Calls Try.prog 51 #[.pointer (some ⟨p0,0,none⟩)] w' fun e w'' => e = .returned (.tuple #[]) ∧ Fk w'' w3.heap.size p0 (.slice Bn nn dn) (.slice (some ⟨gs,0,none⟩) nn nn) mb n (M.map (dffS S)) S F ∧ Kx (tS (.slice Bn nn dn) (.slice (some ⟨gs,0,none⟩) nn nn) mb) w' w'':=fun w' hf => ssettle_as hf hd (by omega)
 have hf:=HF.out
 clear hd Hf
 go_upto_region 12 with (go_at_call 51; (with_reducible refine (C _ hf).mono ?_); (rintro en ws ⟨rfl,FS,kl⟩))
 have K7:=Lib.hid (HK.out.trans kl)
 have hML : (M.map (dffS S)).length = nn:=by rw [List.length_map]; exact hMl
 have Kb:=Lib.hid hML
 clear C hf HF HK kl hML
 have Hr : s7 < ws.heap.size:=Nat.lt_of_lt_of_le Hh (Nat.le_trans HBX.out.size K7.out.size)
 have Kj:=Hr
 -- what lies between s and s7 is as it was
 have K8 : ∀ b,s ≤ b → b < s7 → ws.heap[b]? = wcl.heap[b]?:=fun b h1 h2 => by
  have nt : ¬ tS (.slice Bn nn dn) (.slice (some ⟨gs,0,none⟩) nn nn) mb b:=fun ht => by
   rcases ht with h | h | h
   ·have:=(Kv.out b h).2; omega
   ·have : gs = b:=by injection h
    omega
   omega
  rw [K7.out.2 b (by have:=HBX.out.size; omega) nt,HBX.out.block b (by omega),b7.block b (by omega)]
 have HUN:=Lib.hid K8
 have Kq : Own ws s7 25 [.slice Bn nn dn,.slice Bi ni di,.slice Bo no do']:=by
  have nt : ¬ tS (.slice Bn nn dn) (.slice (some ⟨gs,0,none⟩) nn nn) mb s7:=fun ht => by
   rcases ht with h | h | h
   ·have:=(Kv.out s7 h).2; omega
   ·have : gs = s7:=by injection h
    omega
   omega
  exact ((K7.out.2 s7 (by have:=HBX.out.size; omega) nt).trans (HBX.out.block s7 Hh)).trans ZM
 have Ha:=Lib.hid (row_cong hrowO (w':=ws) (fun b h1 h2 => K8 b (by omega) (by omega)))
 have K4:=Lib.hid (hGD.cong (w':=ws) (fun b h1 h2 => K8 b (by omega) (by omega)))
 have HG7 : Hid (∀ (k : Nat) (r : Rp),Ro[k]? = some r → ∀ g,r.A = some ⟨g,0,none⟩ → g < s7):=Lib.hid fun k r hr g e => by
  have hk : k < no:=by rw [← hRl]; exact (List.getElem?_eq_some_iff.1 hr).1
  obtain ⟨p,hp⟩:=zat h.o.1 hk
  have:=((hGD k r p hk hr hp).1.lt g (by rw [e]; rfl)).2
  omega
 have HRN:=Lib.hid hRn
 have HRL:=Lib.hid hRl
 have Hm : Hid (O.length = no):=Lib.hid h.o.1
 have hno : no ≤ 1000:=by have:=h.hs; omega
 obtain ⟨TP,hTP⟩ : ∃ TP : Nat → Prop,(fun b => s2 ≤ b ∧ b < s7) = TP:=⟨_,rfl⟩
 have Hp : ∀ b,TP b → s2 ≤ b ∧ b < s7:=fun b hb => by rw [← hTP] at hb; exact hb
 have Kw : Hid (∀ w',Kx TP ws w' → Fk w' w3.heap.size p0 (.slice Bn nn dn) (.slice (some ⟨gs,0,none⟩) nn nn) mb n (M.map (dffS S)) S F):=Lib.hid fun w' k => FS.kx k
  (fun t => by
   have h1:=Hp _ t
   omega)
  (fun b e t => by
   have h1:=Hp _ t
   have h2:=(Kv.out b e).2
   omega)
  (fun b e t => by
   have h1:=Hp _ t
   have h2 : gs = b:=by injection e
   omega)
  (fun t => by
   have h1:=Hp _ t
   omega)
 have c2 : _ = some (Value.slice Bo no do'):=Kq.cell 2
 have Ks:=Lib.hid Hp
 have hgs7 : s7 < gs:=by omega
 have hp07 : s7 < p0:=by omega
 clear K8 hRn hRl Hp hrowO hGD
 go_wp2_with fail
 clear c2
 go_loopw [47] (fun i wr => ∃ j : Nat,j ≤ no ∧ i = .int .i64 j ∧ Hid (wr.ownsRow s2 41 2 (.slice Bo no do') no (Ro.flatMap ptC)) ∧ Hid (GD wr s2 no Ro (mixF (outF S) j O)) ∧ Kx TP ws wr) (fun i _ => no - (intOf i).toNat)
 case atStart => exact ⟨0,Nat.zero_le _,rfl,Ha,by rw [ze9]; exact K4,Kx.refl _ _⟩
 clear Ha K4
 obtain ⟨j,hj,rfl,H2,H7,BR⟩:=hrel
 by_cases hlt : j < no
 ·obtain ⟨⟨nm,bs⟩,hp⟩:=zat Hm.out hlt
  obtain ⟨⟨rn,rA,rm,rc⟩,hr⟩:=zat HRL.out hlt
  obtain rfl : rn = nm:=HRN.out j _ _ hr hp
  have HP:=Lib.hid hp
  have HR:=Lib.hid hr
  have K9 : (mixF (outF S) j O)[j]? = some ⟨rn,bs⟩:=by rw [zbJ _ (by rw [Hm.out]; exact hlt)]; exact hp
  obtain ⟨g1,_⟩:=H7.out j _ _ hlt hr K9
  dsimp only at g1
  have Kp : bs.length = rm:=by have:=g1.1; rw [zas inC 1 zaC] at this; omega
  have Kc:=Lib.hid Kp
  have hrm : rm ≤ 100000:=by rw [← Kp]; exact HB.out _ (List.mem_append_right _ (List.mem_of_getElem? hp))
  have HG9 : Hid (∀ g,rA = some ⟨g,0,none⟩ → g < s7):=Lib.hid fun g e => HG7.out j _ hr g e
  have Ki : s7 < wr.heap.size:=Nat.lt_of_lt_of_le Kj BR.size
  obtain ⟨A0,c0,q0,_,hl0,hc0⟩:=zaP H2.out
  injection q0 with qa qb qc
  subst qa qc
  obtain ⟨gp,eA,hg,k1⟩:=hc0 (j * 2 + 0) (.string rn) (by rw [zap ptC 2 zaL Ro j 0 (by omega),hr]; rfl)
  obtain ⟨gp',eA',_,k2⟩:=hc0 (j * 2 + 1) (.slice rA rm rc) (by rw [zap ptC 2 zaL Ro j 1 (by omega),hr]; rfl)
  subst eA
  injection eA' with eA'
  injection eA' with eA'
  subst eA'
  rw [Nat.add_zero] at k1
  have Kn : (j : Int) < (no : Int):=by omega
  have hj0 : (0 : Int) ≤ (j : Int):=by omega
  clear hp hr K9 g1 Kp hc0 hl0
  go_upto_region 15 with fail
  obtain ⟨w9,e_w9,z9,b9⟩:=zmB wr [.string rn,.slice rA rm rc] 41
  rw [e_w9]
  have K0:=Lib.hid (zam H2.out b9)
  have K3:=Lib.hid (H7.out.on b9)
  have BR9:=BR.step b9
  obtain ⟨s9,hs9⟩ : ∃ s9,wr.heap.size = s9:=⟨_,rfl⟩
  rw [hs9] at z9 Ki ⊢
  clear e_w9 k1 k2 b9 hs9 H2 H7
  have c1 : _ = some (Value.slice rA rm rc):=z9.2 1 _ rfl
  have hz9:=Lib.hid z9
  go_wp2_with fail
  clear c1
  go_loopw [54] (fun i wr => ∃ k : Nat,k ≤ rm ∧ i = .int .i64 k ∧ Hid (wr.ownsRow s2 41 2 (.slice (some ⟨gp,0,none⟩) no do') no (Ro.flatMap ptC)) ∧ Hid (GD wr s2 no Ro ((mixF (outF S) j O).set j ⟨rn,mixF (sA S) k bs⟩)) ∧ Hid (Bx wr s9 [.string rn,.slice rA rm rc]) ∧ Kx TP ws wr) (fun i _ => rm - (intOf i).toNat)
  case atStart =>
   refine ⟨0,Nat.zero_le _,rfl,K0,?_,hz9,BR9⟩
   rw [ze9]
   have K9 : (mixF (outF S) j O)[j]? = some ⟨rn,bs⟩:=by rw [zbJ _ (by rw [Hm.out]; exact hlt)]; exact HP.out
   obtain ⟨h1,h2⟩:=List.getElem?_eq_some_iff.1 K9
   rw [← h2,List.set_getElem_self]
   exact K3
  clear K0 K3 hz9 z9 BR BR9
  obtain ⟨k,hk,rfl,H2,H7,K5,BR⟩:=hrel
  by_cases hkt : k < rm
  ·have He : ((mixF (outF S) j O).set j ⟨rn,mixF (sA S) k bs⟩)[j]? = some ⟨rn,mixF (sA S) k bs⟩:=List.getElem?_set_self (by rw [zdB,Hm.out]; exact hlt)
   obtain ⟨j1,_⟩:=H7.out j _ _ hlt HR.out He
   dsimp only at j1
   obtain ⟨g,rfl,hgs,_⟩ : ∃ g,rA = some ⟨g,0,none⟩ ∧ s2 ≤ g ∧ g < wr.heap.size:=by
    rcases row_own j1 with ⟨_,e,_⟩ | h
    ·omega
    exact h
   have hg9 : g < s7:=HG9.out g rfl
   obtain ⟨x,hx⟩ : ∃ x,bs[k]? = some x:=⟨_,List.getElem?_eq_getElem (by rw [Kc.out]; exact hkt)⟩
   obtain ⟨m,rfl,hm⟩ : ∃ m : Nat,x = (m : Int) ∧ m < nn:=by
    have h1:=HPL.out _ (List.mem_of_getElem? HP.out) x (List.mem_of_getElem? hx)
    rw [H4.out] at h1
    unfold zaj at h1
    simp at h1
    exact ⟨x.toNat,by omega,by omega⟩
   have a0 : wr.cell? ⟨g,k,none⟩ = some (Value.int .i64 (m : Int)):=(j1.cellAt k (by omega)).trans (by
    have e:=zap inC 1 zaC (mixF (sA S) k bs) k 0 (by omega)
    rw [Nat.mul_one,Nat.add_zero] at e
    rw [e,zbJ _ (by rw [Kc.out]; exact hkt),hx]
    rfl)
   have H8:=Kw.out _ BR
   have N2:=(za4 H8.rs)
   rw [Kb.out] at N2
   obtain ⟨A2,cc2,e2,_,_,N2⟩:=N2
   injection e2 with e2 _ e2'
   subst e2 e2'
   obtain ⟨b1,off1,eB,iB⟩:=N2.iat hm
   injection eB with eB
   injection eB with eB1 eB2
   subst eB1 eB2
   rw [Nat.zero_add] at iB
   obtain ⟨sv,hsv⟩ : ∃ sv,S.getD m 0 = sv:=⟨_,rfl⟩
   rw [hsv] at iB
   have HSV : Hid (sA S (m : Int) = sv):=Lib.hid (by unfold sA; rw [Int.toNat_natCast]; exact hsv)
   have HX:=Lib.hid hx
   have hkn : (k : Int) < (rm : Int):=by omega
   have hk0 : (0 : Int) ≤ (k : Int):=by omega
   have hm1 : (m : Int) < (nn : Int):=by omega
   have hm0 : (0 : Int) ≤ (m : Int):=by omega
   clear hsv hx N2
   go_upto_region 18 with fail
   have hp9 : p0 ≠ g:=by omega
   have h9g : s9 ≠ g:=by omega
   have h1g : gs ≠ g:=by omega
   refine LexG.region_plan (KB3.ok p0 s9 gs) 0 [0,1,2,3,4,5,6,7,8,9] (h:=?_)
   dsimp only [LexG.pick,LexG.nth]
   have bd : Below wr.heap.size wr wr.drew:=(Below.refl _ _).drew
   replace H8:=H8.on bd
   replace iB:=iB.on bd
   replace H2:=Lib.hid (zam H2.out bd)
   replace H7:=Lib.hid (H7.out.on bd)
   replace K5:=Lib.hid (K5.out.on bd)
   replace j1:=zam j1 bd
   replace BR:=BR.step bd
   obtain ⟨w4,e4⟩ : ∃ w',wr.drew = w':=⟨_,rfl⟩
   rw [e4] at H8 iB H2 H7 K5 j1 BR ⊢
   clear e4 bd a0
   have Kg:=fun s : LexG.Wd (KB3 p0 s9 gs) w4 => (show s.w.cell? ⟨p0,1,none⟩ = some (Value.slice (some ⟨gs,0,none⟩) nn nn) from (zac s.rel.1 1).trans (H8.ow.cell 1))
   have Kf:=fun s : LexG.Wd (KB3 p0 s9 gs) w4 => (show s.w.cell? ⟨s9,1,none⟩ = some (Value.slice (some ⟨g,0,none⟩) rm rc) from (zac s.rel.2.1 1).trans (K5.out.2 1 _ rfl))
   have Ke:=fun s : LexG.Wd (KB3 p0 s9 gs) w4 => (show s.w.cell? ⟨gs,m,none⟩ = some (Value.int .i64 sv) from (zac s.rel.2.2 m).trans iB.2)
   refine LexG.lex_plain 9 (by kernel_rfl) ?_
   dsimp only [List.take,List.drop]
   repeat go_big_quiet_step (fail)
   refine wpQuiet_nil ?_
   clear Kg Kf Ke
   have a1 : w4.cell? ⟨g,k,none⟩ = some (Value.int .i64 (m : Int)):=(j1.cellAt k (by omega)).trans (by
    have e:=zap inC 1 zaC (mixF (sA S) k bs) k 0 (by omega)
    rw [Nat.mul_one,Nat.add_zero] at e
    rw [e,zbJ _ (by rw [Kc.out]; exact hkt),HX.out]
    rfl)
   have f1:=j1.frozenAt k
   refine LexG.lex_call (h:=fun K hK => ?_)
   go_simp
   clear a1 f1
   refine hK _ _ (KB3.set w4 hp9 h9g h1g k (.int .i64 sv)) ?_
   clear hK K
   obtain ⟨cu,hcu,_⟩:=zaJ j1
   have Kt:=Lib.hid (zaI H2.out hcu (by decide) k (.int .i64 sv))
   have He : ((mixF (outF S) j O).set j ⟨rn,mixF (sA S) k bs⟩)[j]? = some ⟨rn,mixF (sA S) k bs⟩:=List.getElem?_set_self (by rw [zdB,Hm.out]; exact hlt)
   have K2:=H7.out.put (i:=k) hlt HR.out He rfl sv
   rw [List.set_set] at K2
   dsimp only at K2
   rw [← HSV.out,← zbK (sA S) HX.out,HSV.out] at K2
   have Hn:=Lib.hid K2
   have Kr:=Lib.hid (K5.out.apart h9g k (.int .i64 sv))
   have BR':=BR.set (g:=g) (by rw [← hTP]; exact ⟨hgs,hg9⟩) k (.int .i64 sv)
   clear K2 He
   refine LexG.lex_nil ?_
   dsimp only [NoPanic]
   go_wp2_with fail
   go_roundw
   case rel => exact ⟨k + 1,by omega,by go_num,Kt,Hn,Kr,BR'⟩
   case measure => simp [intOf]; omega
  obtain rfl : k = rm:=by omega
  have hkn : ¬ (k : Int) < (k : Int):=by omega
  have Hn : Hid (GD wr s2 no Ro (mixF (outF S) (j + 1) O)):=Lib.hid (by
   have e:=zcp (sA S) bs
   rw [Kc.out] at e
   rw [zbK (outF S) HP.out]
   have:=H7.out
   rw [e] at this
   exact this)
  go_wp2_with fail
  go_roundw
  case rel => exact ⟨j + 1,by omega,by go_num,H2,Hn,BR⟩
  case measure => simp [intOf]; omega
 obtain rfl : j = no:=by omega
 have Kn : ¬ (j : Int) < (j : Int):=by omega
 have hb : GD wr s2 j Ro (O.map (outF S)):=by
  have:=H7.out
  rw [← zcp (outF S) O,Hm.out]
  exact this
 have H8:=Kw.out _ BR
 have H6:=Lib.hid hb
 clear hb H7
 go_upto_region 21 with fail
 have H9 : s1 < w3.heap.size:=by omega
 have Hg:=HBX.out.size
 have Kh : w3.heap.size ≤ ws.heap.size:=Nat.le_trans H0 (Nat.le_trans Hg K7.out.size)
 have Kd : Below w3.heap.size w3 wr:=(HX3.out.trans (K7.out.below (Nat.le_trans H0 Hg) HT3.out)).trans (BR.below Kh (fun x hx => by
  have:=Ks.out x hx
  omega))
 have Hd:=ZR.below Kd ZR.lt
 have Ho:=Ku.out.trans (Kd.mono (by omega))
 have hwsr:=BR.size
 have Hl:=hpi wr (fun b h1 h2 => (BR.2 b (by omega) (fun t => by have:=Ks.out b t; omega)).trans (HUN.out b h1 (by omega))) (by omega)
 have hz7 : wr.heap[s7]? = ws.heap[s7]?:=BR.2 s7 Hr (fun t => by have:=Ks.out s7 t; omega)
 have Hc:=Lib.hid (show Own wr s7 25 [.slice Bn nn dn,.slice Bi ni di,.slice Bo j do'] from hz7.trans Kq)
 have Hq:=H8.rn
 have C9 : ∀ w',Fk w' w3.heap.size p0 (.slice Bn nn dn) (.slice (some ⟨gs,0,none⟩) nn nn) mb n (M.map (dffS S)) S F → Calls Try.prog 52 #[.pointer (some ⟨p0,0,none⟩)] w' fun e w'' => e = .returned (.int .i64 (chS S nn : Nat)) ∧ Below w'.heap.size w' w'':=fun w' f => by
  have:=replaced_as f (by rw [Kb.out]; omega)
  rw [Kb.out] at this
  exact this
 have H1 : s7 ≠ s1:=by omega
 have Hj : s1 < s:=by omega
 have H5 : s1 < s2:=by omega
 have hswr : s7 < wr.heap.size:=by omega
 clear BR Kw HUN hpi Kq hz7 ZR BW
 refine LexG.region_plan (KB3.ok s7 s7 s7) 0 [0,1,2,3,4] (h:=?_)
 dsimp only [LexG.pick,LexG.nth]
 have bd : Below wr.heap.size wr wr.drew:=(Below.refl _ _).drew
 replace H8:=H8.on bd
 replace Hd:=Hd.below bd Hd.lt
 replace Hc:=Lib.hid (Hc.out.below bd Hc.out.lt)
 replace Hl:=Hl.on bd
 replace H2:=Lib.hid (zam H2.out bd)
 replace H6:=Lib.hid (H6.out.on bd)
 replace Hq:=zam Hq bd
 replace Ho:=Below.step Ho bd
 obtain ⟨w4,e4⟩ : ∃ w',wr.drew = w':=⟨_,rfl⟩
 rw [e4] at H8 Hd Hc Hl H2 H6 Hq Ho ⊢
 clear e4 bd
 have Kg:=fun s : LexG.Wd (KB3 s7 s7 s7) w4 => (show s.w.cell? ⟨s7,0,none⟩ = some (Value.slice Bn nn dn) from (zac s.rel.1 0).trans (Hc.out.cell 0))
 have Kf:=fun s : LexG.Wd (KB3 s7 s7 s7) w4 => (show s.w.cell? ⟨s7,1,none⟩ = some (Value.slice Bi ni di) from (zac s.rel.1 1).trans (Hc.out.cell 1))
 have Ke:=fun s : LexG.Wd (KB3 s7 s7 s7) w4 => (show s.w.cell? ⟨s7,2,none⟩ = some (Value.slice Bo j do') from (zac s.rel.1 2).trans (Hc.out.cell 2))
 refine LexG.lex_plain 1 (by kernel_rfl) ?_
 dsimp only [List.take,List.drop]
 repeat go_big_quiet_step (fail)
 refine wpQuiet_nil ?_
 clear Kg Kf Ke
 refine LexG.lex_call (h:=fun K hK => ?_)
 go_simp
 refine (C9 _ H8).mono ?_
 rintro en w5 ⟨rfl,b⟩
 dsimp only
 refine hK _ _ ⟨b.block _ Hc.out.lt,b.block _ Hc.out.lt,b.block _ Hc.out.lt⟩ ?_
 clear hK K
 replace Hd:=Hd.below b Hd.lt
 replace Hl:=Hl.on b
 replace H2:=Lib.hid (zam H2.out b)
 replace H6:=Lib.hid (H6.out.on b)
 replace Hq:=zam Hq b
 replace Ho:=Below.step Ho b
 clear b H8 Hc
 obtain ⟨c0,c1,c2⟩:=Hd.zo3
 obtain ⟨f0,f1,f2⟩:=Hd.zof0f1f2
 refine LexG.lex_call (h:=fun K hK => ?_)
 go_simp
 clear c0 c1 c2 f0 f1 f2
 have kb:=(KB3.ok s7 s7 s7).trans _ _ _ ((KB3.ok s7 s7 s7).trans _ _ _ (KB3.set w5 H1 H1 H1 0 (.slice Bn nn dn)) (KB3.set _ H1 H1 H1 1 (.slice Bi ni di))) (KB3.set _ H1 H1 H1 2 (.slice Bo j do'))
 refine hK _ _ kb ?_
 clear hK K kb
 have VR:=Hd.p3' (.slice Bn nn dn) (.slice Bi ni di) (.slice Bo j do')
 obtain ⟨q0,q1,q2⟩:=VR.zo3
 have Hu:=zak (zak (zak Hq H9 0 (.slice Bn nn dn)) H9 1 (.slice Bi ni di)) H9 2 (.slice Bo j do')
 have Ht:=zak (zak (zak H2.out H5 0 (.slice Bn nn dn)) H5 1 (.slice Bi ni di)) H5 2 (.slice Bo j do')
 have Hz:=((H6.out.keepS H5 0 (.slice Bn nn dn)).keepS H5 1 (.slice Bi ni di)).keepS H5 2 (.slice Bo j do')
 have Hk:=((Hl.far (zai w5 ⟨s1,0,none⟩ (.slice Bn nn dn)) Hj).far (zai _ ⟨s1,1,none⟩ (.slice Bi ni di)) Hj).far (zai _ ⟨s1,2,none⟩ (.slice Bo j do')) Hj
 have hle : w.heap.size ≤ s1:=by omega
 have BW6:=Ho.e3' hle (.slice Bn nn dn) (.slice Bi ni di) (.slice Bo j do')
 have Km:=Hz.psH Ht HRL.out (by rw [List.length_map]; exact Hm.out) (fun k r q hr hq => by
  rw [List.getElem?_map] at hq
  cases hq0 : O[k]? with
  | none => rw [hq0] at hq; cases hq
  | some q0 =>
   rw [hq0] at hq
   injection hq with hq
   rw [← hq]
   exact HRN.out k r q0 hr hq0)
 have hpn:=zbj Hu
 rw [Kb.out] at hpn
 obtain ⟨A2,cc2,e2,_,hA2,N2⟩:=hpn
 injection e2 with e2 _ e2'
 subst e2 e2'
 have Hy : w.heap.size ≤ w3.heap.size:=by omega
 have Hx : w.heap.size ≤ s:=by omega
 have Hw : w.heap.size ≤ s2:=by omega
 have HNT : Hid (NtH w.heap.size (((w5.setCell ⟨s1,0,none⟩ (.slice Bn nn dn)).setCell ⟨s1,1,none⟩ (.slice Bi ni di)).setCell ⟨s1,2,none⟩ (.slice Bo j do')) Bn nn dn Bi ni di Bo j do' (M.map (dffS S)) I (O.map (outF S))):=Lib.hid ⟨⟨N2,Hk.ps,Km.ps,swi,swo,Hi,h.hs,fun q hq => by
  rcases List.mem_append.1 hq with hq | hq
  ·exact h.hb q (List.mem_append_left _ hq)
  obtain ⟨q0,hq0,rfl⟩:=List.mem_map.1 hq
  unfold outF
  rw [List.length_map]
  exact h.hb q0 (List.mem_append_right _ hq0)⟩,fun b off e => Nat.le_trans Hy (hA2 b off e).1,Hk.mono Hx,Km.mono Hw⟩
 have HBW:=Lib.hid BW6
 have K6 : Hid (runK N L = (M,S,F)):=Lib.hid (by have:=HRUN.out; rw [List.take_length] at this; exact this)
 clear hA2 Hy Hx Hw BW6 Km Hk Hz Ht Hu N2 Hl Ho VR
 refine LexG.lex_plain 2 (by kernel_rfl) ?_
 dsimp only [List.take,List.drop]
 repeat go_big_quiet_step (fail)
 refine wpQuiet_nil ?_
 refine LexG.lex_nil ?_
 dsimp only [NoPanic]
 go_wp2_with fail
 refine bodyPost_ret (v:=.tuple #[.agg #[.slice Bn nn dn,.slice Bi ni di,.slice Bo j do'],.int .i64 (chS S nn : Nat),.int .i64 0]) (by simp [results,Try.results23,go_sem,q0,q1,q2]) rfl ?_
 exact ⟨⟨Bn,dn,Bi,di,Bo,do',M,S,rfl,F,K6.out,HSI.out,HNT.out,swn⟩,HBW.out⟩
end Go.Proofs.Ytcehklnonhalhaa
