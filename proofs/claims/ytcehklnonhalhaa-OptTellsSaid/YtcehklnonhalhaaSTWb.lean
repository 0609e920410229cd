/-
  What the proofs of OptTells need: Wb Wc Wd We Wh Wi.
-/
import Derived.Test.YtcehklnonhalhaaSTWa
import Derived.Test.YtcehklnonhalhaaSTVf
import Derived.Test.YtcehklnonhalhaaSTJB
import Derived.Test.YtcehklnonhalhaaSTYv
import Derived.Test.YtcehklnonhalhaaSTLexG
set_option linter.unusedVariables false
namespace Go.Proofs.Ytcehklnonhalhaa
open Go.RowKit
set_option maxRecDepth 4000
structure Rm (w : World) (base s5 s6 g n : Nat) (B : List Bool) (vt : Value) (T : List Int) : Prop where
  b5 : Own w s5 48 [.slice (some ⟨g,0,none⟩) n n]
  b6 : Own w s6 39 [vt]
  rb : Own w g 4 (B.map .bool)
  rt : w.ownsRow base 3 1 vt T.length (T.flatMap inC)
  bl : B.length = n
section
variable {w w' : World} {base s5 s6 g n : Nat} {B : List Bool} {vt : Value} {T : List Int}
theorem Rm.on (h : Rm w base s5 s6 g n B vt T) (hb : Below w.heap.size w w') : Rm w' base s5 s6 g n B vt T:=⟨h.b5.below hb h.b5.lt,h.b6.below hb h.b6.lt,h.rb.below hb h.rb.lt,zam h.rt hb,h.bl⟩
theorem Rm.see (h : Rm w base s5 s6 g n B vt T) (m : Nat) : Rm (w.setCell ⟨g,m,none⟩ (.bool true)) base s5 s6 g n (B.set m true) vt T:=
 ⟨h.b5.apart (zaK h.b5 h.rb (by decide)) _ _,h.b6.apart (zaK h.b6 h.rb (by decide)) _ _,by rw [List.map_set]; exact h.rb.put m _,zaI h.rt h.rb (by decide) _ _,by rw [List.length_set]; exact h.bl⟩
theorem Rm.grow (h : Rm w base s5 s6 g n B vt T) {v' : Value} {T' : List Int} (hr : w'.ownsRow base 3 1 v' T'.length (T'.flatMap inC)) (hg : w.grownBy w' vt.ownBlock) : Rm (w'.setCell ⟨s6,0,none⟩ v') base s5 s6 g n B v' T':=by
 have k5:=zcV h.b5 h.rt hg (by decide)
 have k6:=zcV h.b6 h.rt hg (by decide)
 have kb:=zcV h.rb h.rt hg (by decide)
 exact ⟨k5.apart (zaK k5 k6 (by decide)) _ _,k6.put 0 v',kb.apart (zaK kb k6 (by decide)) _ _,zaI hr k6 (by decide) _ _,h.bl⟩
end
def tR (s5 s6 g : Nat) (vt : Value) : Nat → Prop:=fun b => b = s5 ∨ b = s6 ∨ b = g ∨ vt.ownBlock = some b
theorem Kx.grown2 {T : Nat → Prop} {a b c : World} {o : Option Nat} (h : Kx T a b) (hG : b.grownBy c o) (ho : ∀ k,o = some k → T k ∨ a.heap.size ≤ k) : Kx T a c:=⟨Below.grown h.1 hG (Nat.zero_le _) (fun _ _ => Nat.zero_le _),fun x hx ht => (hG.block x (Nat.lt_of_lt_of_le hx h.size) (fun e => by
 rcases ho x (by first | exact e | exact e.symm) with k | k
 ·exact ht k
 omega)).trans (h.2 x hx ht)⟩
theorem Is.kx {T : Nat → Prop} {w w' : World} {A : Option Addr} {n : Nat} {L : List Int} (h : Is w A n L) (hk : Kx T w w') (ht : ∀ b off,A = some ⟨b,off,none⟩ → ¬ T b) : Is w' A n L:=⟨h.1,fun k x hx => by
 obtain ⟨b,off,e,h1,h2⟩:=h.2 k x hx
 exact ⟨b,off,e,Nat.lt_of_lt_of_le h1 hk.size,(zac (hk.2 b h1 (ht b off e)) _).trans h2⟩⟩
theorem zbR {P : Program} (w : World) {ops : Array Oper} {rest : List Oper} {o : Oper} {a : Act} {Q : Exit → Act → World → Prop} (hgd : o.guard = none) (s x : Operand) (t : TypeId)
  (ho : o.op = .call { callee:=.builtin .append,args:=#[s,x],argTypes:=#[t,t] }) {e : TypeId} {bytes : Nat} (hE : Elm P t e 1 bytes) (hby : bytes ≤ 64)
  (base : Nat) (v : Value) (n : Nat) (xs : List Value) (hl : xs.length = n) (hs : a.eval s = v) (hown : w.ownsRow base e 1 v n xs) (u : Value) (hu : u.oneCell' = true) (hx : a.eval x = .slice (some ⟨w.heap.size,0,none⟩) 1 1)
  (hn : n + 1 ≤ 1000000) (hbase : base ≤ w.heap.size)
  (h : ∀ v' w',w'.ownsRow base e 1 v' (n + 1) (xs ++ [u]) → (w.alloc (.cells #[u] e)).grownBy w' v.ownBlock → (∀ b,v'.ownBlock = some b → v.ownBlock = some b ∨ w.heap.size ≤ b) → wpList P ops Q rest (a.put o.dst v') w') : wpList P ops Q (o :: rest) a (w.alloc (.cells #[u] e)):=by
 have b1 : Below w.heap.size w (w.alloc (.cells #[u] e)):=zaa _ _
 have hz : Bx (w.alloc (.cells #[u] e)) w.heap.size [u]:=Bx.made_k w rfl #[u] e
 have H0:=zam hown b1
 have hc : ∀ j u',([u] : List Value)[j]? = some u' → (w.alloc (.cells #[u] e)).cell? ((⟨w.heap.size,0,none⟩ : Addr).add j) = some u':=by
  intro j u' hj
  rw [zcG,Nat.zero_add]
  exact hz.2 j u' hj
 have h1 : ∀ u' ∈ [u],u'.oneCell' = true:=by intro u' hu'; rw [List.mem_singleton.1 hu']; exact hu
 obtain ⟨ht,i,z,hi,hz0,h3,h4,h5,_⟩:=hE
 obtain ⟨A,c,rfl,sw,_⟩:=zaP hown
 by_cases hcap : n + 1 ≤ c
 ·rcases row_own H0 with ⟨rfl,_⟩ | ⟨g,rfl,_,_⟩
  ·have:=sw.2.2 rfl
   omega
  refine wpList_append_fits _ hgd s x t ho base e i 1 ht hi h3 g n c xs hs H0 ⟨w.heap.size,0,none⟩ 1 1 [u] hx rfl hc h1 hcap fun w' r gr => h _ _ r gr (fun b e => .inl e)
 refine wpList_append_grows _ hgd s x t ho e i z 1 bytes ht hi hz0 h3 h4 h5 (by omega) A n c xs hs (fun e => ?_) (by rw [hl]; omega) (fun b hb j u' hj => ?_) ⟨w.heap.size,0,none⟩ 1 1 [u] hx rfl hc h1 (by omega) (by unfold maxLen; omega) ?_ fun v' w' r gr => ?_
 ·have:=sw.2.2 e
  have:=sw.1
  omega
 ·subst hb
  rcases row_own H0 with ⟨e,_⟩ | ⟨g,e,_,_⟩
  ·cases e
  injection e with e
  subst e
  rw [zcG,Nat.zero_add]
  exact (H0.cellAt j (by have:=(List.getElem?_eq_some_iff.1 hj).1; omega)).trans hj
 ·have : (n + 1) * bytes ≤ 1000000 * 64:=Nat.mul_le_mul hn hby
  omega
 have hsz:=b1.size
 obtain ⟨g1,g2,g3,g4,g5⟩:=gr
 exact h v' w' (zbY r (Nat.le_trans hbase hsz)) ⟨g1,g2,g3,g4,fun b hb _ => g5 b hb (fun e => by cases e)⟩ (fun b e => .inr (Nat.le_trans hsz (r.lt b e).1))
structure Aft (w w' : World) (base s5 s6 g n : Nat) (B' : List Bool) (vt : Value) (T' : List Int) (vt' : Value) : Prop where
  rm : Rm w' base s5 s6 g n B' vt' T'
  kx : Kx (tR s5 s6 g vt) w w'
  nb : ∀ b,vt'.ownBlock = some b → vt.ownBlock = some b ∨ w.heap.size ≤ b
set_option maxHeartbeats 4000000 in
theorem sawait_as {w : World} {base s5 s6 g n : Nat} {B : List Bool} {vt : Value} {T : List Int} (h : Rm w base s5 s6 g n B vt T) {Ap : Option Addr} {np cp : Nat} {Y : List Int} (hY : Is w Ap np Y) (hp : Plc n Y) (hA : np ≠ 0 → ∀ b off,Ap = some ⟨b,off,none⟩ → ¬ tR s5 s6 g vt b) (hn : np ≤ 1000000) (hm : T.length + cntF B < 1000000) (hbs : base ≤ w.heap.size) :
  Calls Try.prog 80 #[.slice Ap np cp,.pointer (some ⟨s5,0,none⟩),.pointer (some ⟨s6,0,none⟩)] w fun e w' => e = .returned (.tuple #[]) ∧ ∃ vt',Aft w w' base s5 s6 g n (awF (B,T) Y).1 vt (awF (B,T) Y).2 vt':=by
 have HP:=Lib.hid hp
 have HA:=Lib.hid hA
 clear hp hA
 go_enter Try.func80,Try.ntmps80
 go_wp2_with fail
 go_loopw [8] (fun i wr => ∃ (j : Nat) (v : Value),j ≤ np ∧ i = .int .i64 j ∧ Hid (Aft w wr base s5 s6 g n (awF (B,T) (Y.take j)).1 vt (awF (B,T) (Y.take j)).2 v)) (fun i _ => np - (intOf i).toNat)
 case atStart => exact ⟨0,vt,Nat.zero_le _,rfl,Lib.hid ⟨h,Kx.refl _ _,fun b e => .inl e⟩⟩
 obtain ⟨j,v,hj,rfl,HF⟩:=hrel
 by_cases hlt : j < np
 ·obtain ⟨b,off,y,eA,HX,cy⟩:=(hY.kx HF.out.kx (HA.out (by omega))).at hlt
  subst eA
  obtain ⟨m,rfl,hmn⟩:=HP.out y (List.mem_of_getElem? HX.out)
  have hjn : (j : Int) < (np : Int):=by omega
  have hj0 : (0 : Int) ≤ (j : Int):=by omega
  have hm0 : (0 : Int) ≤ (m : Int):=by omega
  have hm1 : (m : Int) < (n : Int):=by omega
  obtain ⟨B1,hB1⟩ : ∃ B1,(awF (B,T) (Y.take j)).1 = B1:=⟨_,rfl⟩
  obtain ⟨T1,H0⟩ : ∃ T1,(awF (B,T) (Y.take j)).2 = T1:=⟨_,rfl⟩
  have HE : Hid (awF (B,T) (Y.take (j + 1)) = awS (B1,T1) (m : Int)):=Lib.hid (by rw [awF_snoc _ HX.out,← hB1,← H0])
  have HM : Hid (T1.length + cntF B1 = T.length + cntF B):=Lib.hid (by
   rw [← hB1,← H0]
   exact (aw_all (B:=B) (T:=T) (Y:=Y.take j) (by rw [h.bl]; exact fun y hy => HP.out y (List.mem_of_mem_take hy))).meas)
  rw [hB1,H0] at HF
  have F:=HF.out
  have R:=F.rm
  have hbl:=R.bl
  obtain ⟨u,hu⟩ : ∃ u,B1.getD m false = u:=⟨_,rfl⟩
  have a0:=R.b5.cell 0
  have a0 : wr.cell? ⟨s5,0,none⟩ = some (Value.slice (some ⟨g,0,none⟩) n n):=a0
  have a1 : wr.cell? ⟨g,m,none⟩ = some (.bool u):=by
   rw [R.rb.cell m,List.getElem?_map,List.getElem?_eq_getElem (by omega)]
   rw [List.getD_eq_getElem?_getD,List.getElem?_eq_getElem (by omega)] at hu
   exact congrArg (fun b => some (Value.bool b)) hu
  have HU:=Lib.hid hu
  clear hu hB1 H0
  cases u
  ·have f1:=R.rb.free m
   go_upto_region 5 with fail
   have R1:=R.see m
   have K1:=F.kx.set (g:=g) (.inr (.inr (.inl rfl))) m (.bool true)
   have H1 : wr.heap.size = (wr.setCell ⟨g,m,none⟩ (.bool true)).heap.size:=by simp [World.setCell]
   have NB:=F.nb
   have hws:=F.kx.size
   obtain ⟨w1,e1⟩ : ∃ w',wr.setCell ⟨g,m,none⟩ (.bool true) = w':=⟨_,rfl⟩
   rw [e1] at R1 K1 H1 ⊢
   rw [H1] at hws
   clear e1 a0 a1 f1 F R H1
   have a2 : w1.cell? ⟨s6,0,none⟩ = some v:=R1.b6.cell 0
   have hln : (T1.flatMap inC).length = T1.length:=by rw [zas inC 1 zaC]; omega
   have H0 : T1.length + 1 ≤ 1000000:=by have:=HM.out; omega
   have hbw : base ≤ w1.heap.size:=by omega
   go_wp2_with (at_builtin; refine zbR w1 rfl _ _ 39 rfl zbI (by omega) base v T1.length (T1.flatMap inC) hln rfl R1.rt (.int .i64 (m : Int)) rfl rfl H0 hbw ?_; intro v' w5 hr5 hG5 hnb5; have k6:=zcV (R1.on (zaa w1 (.cells #[.int .i64 (m : Int)] 3))).b6 (R1.on (zaa w1 (.cells #[.int .i64 (m : Int)] 3))).rt hG5 (by decide); have f6:=k6.free 0; have z6 : w5.cell? ⟨s6,0,none⟩ = some v:=k6.cell 0; obtain ⟨A5,c5,rfl,sw5,_⟩:=zaP hr5; clear k6)
   obtain ⟨v',hv'⟩ : ∃ v',Value.slice A5 (T1.length + 1) c5 = v':=⟨_,rfl⟩
   rw [hv'] at hr5 hnb5 ⊢
   have R2:=R1.on (zaa w1 (.cells #[.int .i64 (m : Int)] 3))
   have K2:=K1.step (zaa w1 (.cells #[.int .i64 (m : Int)] 3))
   have eT : T1.flatMap inC ++ [.int .i64 (m : Int)] = (T1 ++ [(m : Int)]).flatMap inC:=by rw [List.flatMap_append]; rfl
   have eL : T1.length + 1 = (T1 ++ [(m : Int)]).length:=by simp
   rw [eT,eL] at hr5
   have R5:=R2.grow hr5 hG5
   have K5:=(K2.grown2 hG5 (fun k hk => by
    rcases NB k hk with e | e
    ·exact .inl (.inr (.inr (.inr e)))
    exact .inr e)).set (g:=s6) (.inr (.inl rfl)) 0 v'
   have NB5 : ∀ b,v'.ownBlock = some b → vt.ownBlock = some b ∨ w.heap.size ≤ b:=fun b e => by
    rcases hnb5 b e with k | k
    ·exact NB b k
    exact .inr (Nat.le_trans hws k)
   have HR5:=Lib.hid (Aft.mk R5 K5 NB5)
   clear R5 K5 NB5 R2 K2 hr5 hG5 hnb5 NB eT eL f6 z6 a2 R1 K1
   go_roundw
   case rel =>
    refine ⟨j + 1,v',by omega,by go_num,?_⟩
    rw [HE.out]
    unfold awS
    rw [Int.toNat_natCast,if_neg (by rw [HU.out]; decide)]
    exact HR5
   case measure => simp [intOf]; omega
  clear R F
  go_wp2_with fail
  go_roundw
  case rel =>
   refine ⟨j + 1,v,by omega,by go_num,?_⟩
   rw [HE.out]
   unfold awS
   rw [Int.toNat_natCast,if_pos HU.out]
   exact HF
  case measure => simp [intOf]; omega
 obtain rfl : j = np:=by omega
 have hjn : ¬ (j : Int) < (j : Int):=by omega
 have e : Y.take j = Y:=List.take_of_length_le (by rw [hY.1]; omega)
 rw [e] at HF
 go_wp2_with fail
 refine bodyPost_end (v:=.tuple #[]) (by simp [results,Try.results80,go_sem]) rfl ⟨rfl,v,HF.out⟩
end Go.Proofs.Ytcehklnonhalhaa
namespace Go.Proofs.Ytcehklnonhalhaa
open Go.RowKit
set_option maxRecDepth 4000
set_option maxHeartbeats 1000000 in
theorem usesR_as (k p q r : Int) (w : World) : Calls Try.prog 81 #[.agg #[.int .i64 k,.int .i64 p,.int .i64 q,.int .i64 r]] w fun en w' => ∃ A m c,en = .returned (.slice A m c) ∧ w'.ownsRow w.heap.size 3 1 (.slice A m c) m ((zag ⟨k,p,q,r⟩).flatMap inC) ∧ m ≤ 3 ∧ Is w' A m (zag ⟨k,p,q,r⟩) ∧ Below w.heap.size w w':=by
 obtain ⟨m,hm⟩ : ∃ m,zau k = m:=⟨_,rfl⟩
 have hm3 : (m : Int) ≤ 3:=by have:=zbM k; omega
 have hm0 : (0 : Int) ≤ (m : Int):=by omega
 have HM:=Lib.hid hm
 have H1 : Hid ((zag ⟨k,p,q,r⟩).length = m):=Lib.hid (by rw [zbo]; exact hm)
 clear hm
 go_enter Try.func81,Try.ntmps81
 go_upto_region 1 with fail
 obtain ⟨w1,e_w1,z0,b1⟩:=zmB w [.int .i64 k,.int .i64 p,.int .i64 q,.int .i64 r] 43
 rw [e_w1]
 clear e_w1
 obtain ⟨z0c0,z0c1,z0c2,z0c3⟩:=z0.zb4
 go_wp2_with fail
 refine (zeX k p q r m HM.out _).mono ?_
 rintro e w2 ⟨rfl,b2⟩
 have B2:=Below.step b1 b2
 clear z0c0 z0c1 z0c2 z0c3 z0 b1 b2
 go_upto_region 2 with fail
 obtain ⟨w3,e_w3,z1,b3⟩:=zmB w2 [.int .i64 p,.int .i64 q,.int .i64 r] 137
 rw [e_w3]
 clear e_w3
 have B3:=Below.step B2 b3
 have hi : Is w3 (some ⟨w2.heap.size,0,none⟩) m (zag ⟨k,p,q,r⟩):=⟨H1.out,fun j x hx => ⟨_,0,rfl,z1.1,by
  rw [Nat.zero_add]
  exact z1.2 j _ (zd1 j x (by rw [HM.out,← H1.out]; exact (List.getElem?_eq_some_iff.1 hx).1) hx)⟩⟩
 go_wp2_with (at_builtin; refine zax (A:=some ⟨w2.heap.size,0,none⟩) (m:=m) (c:=3) rfl _ _ 39 rfl zbI (by omega) (by omega) w.heap.size _ _ _ rfl (World.ownsRow_nil w3 _ _ _) ((zag ⟨k,p,q,r⟩).flatMap inC) rfl (fun e => by cases e) (by rw [zas inC 1 zaC,H1.out]) hi.cells (one_in _) (by omega) B3.size ?_; intro v4 w4 hrow hg; have B4:=za5 (World.ownsRow_nil w3 w.heap.size 3 1) B3 (Nat.le_refl _) hg)
 go_ret
 rw [Nat.zero_add,List.nil_append] at hrow
 have H0:=hrow
 obtain ⟨A,c,rfl,sw,_,hi4⟩:=za4 hrow
 exact ⟨A,m,c,rfl,H0,by omega,hi4,B4⟩
def unB : Value → Bool
 | .bool b => b
 | _ => false
def meW (w : World) (s6 g : Nat) : Nat:=lenW ((w.cell? ⟨s6,0,none⟩).getD (.slice none 0 0)) + (match w.heap[g]? with
 | some (.cells c _ _) => cntF (c.toList.map unB)
 | _ => 0)
theorem Rm.me {w : World} {base s5 s6 g n : Nat} {B : List Bool} {vt : Value} {T : List Int} (h : Rm w base s5 s6 g n B vt T) : meW w s6 g = T.length + cntF B:=by
 have hb : w.heap[g]? = some (.cells (B.map Value.bool).toArray 4 (0,0)):=h.rb
 have h6 : w.cell? ⟨s6,0,none⟩ = some vt:=h.b6.cell 0
 unfold meW
 rw [hb,h6]
 show lenW vt + cntF (((B.map Value.bool).toArray.toList).map unB) = _
 rw [row_len h.rt]
 have e : ((B.map Value.bool).toArray.toList).map unB = B:=by
  simp
  exact List.map_id'' (fun _ => rfl) _
 rw [e]
theorem Rm.pop {w : World} {base s5 s6 g n : Nat} {B : List Bool} {vt : Value} {T : List Int} (h : Rm w base s5 s6 g n B vt T) {v' : Value} {V : List Int} (hr : w.ownsRow base 3 1 v' V.length (V.flatMap inC)) : Rm (w.setCell ⟨s6,0,none⟩ v') base s5 s6 g n B v' V:=
 ⟨h.b5.apart (zaK h.b5 h.b6 (by decide)) _ _,h.b6.put 0 v',h.rb.apart (zaK h.rb h.b6 (by decide)) _ _,zaI hr h.b6 (by decide) _ _,h.bl⟩
set_option maxHeartbeats 8000000 in
theorem sreached_as {w : World} {An : Option Addr} {nn cn : Nat} {N : List Nd} (hN : Ns w An nn N) (hnn : nn ≤ 100000) (hu : ∀ q,q < nn → Plc nn (zag (N.getD q nd0))) {Ap : Option Addr} {np cp : Nat} {Y : List Int} (hY : Is w Ap np Y) (hp : Plc nn Y) (hnp : np ≤ 1000000) :
  Calls Try.prog 56 #[.slice An nn cn,.slice Ap np cp] w fun e w' => ∃ (g : Nat) (B : List Bool),e = .returned (.slice (some ⟨g,0,none⟩) nn nn) ∧ Own w' g 4 (B.map .bool) ∧ B.length = nn ∧ (∀ p,B.getD p false = true ↔ Rch N (fun p => (p : Int) ∈ Y) p) ∧ w.heap.size ≤ g ∧ Below w.heap.size w w':=by
 have HU:=Lib.hid hu
 have HP:=Lib.hid hp
 have H2:=Lib.hid hN.1
 clear hu hp
 go_enter Try.func56,Try.ntmps56
 go_upto_region 4 with (at_make; refine za2 _ rfl _ _ 48 rfl 4 (.bool false) 1 Try.underlying48 zcX rfl (by omega) _ nn rfl rfl rfl (by omega) ?_; intro w1 ho b1 hz1)
 have b3 : Below w1.heap.size w1 ((w1.alloc (.cells #[.slice (some ⟨w.heap.size,0,none⟩) nn nn] 48)).alloc (.cells #[.slice none 0 0] 39)):=zbu _ _ _
 have B3:=Below.step b1 b3
 have k5 : Own ((w1.alloc (.cells #[.slice (some ⟨w.heap.size,0,none⟩) nn nn] 48)).alloc (.cells #[.slice none 0 0] 39)) (w.heap.size + 1) 48 [.slice (some ⟨w.heap.size,0,none⟩) nn nn]:=by
  rw [← hz1]
  exact (Own.made w1 48 [.slice (some ⟨w.heap.size,0,none⟩) nn nn]).below (zaa _ _) (by simp)
 have k6 : Own ((w1.alloc (.cells #[.slice (some ⟨w.heap.size,0,none⟩) nn nn] 48)).alloc (.cells #[.slice none 0 0] 39)) (w.heap.size + 1 + 1) 39 [.slice none 0 0]:=by
  rw [← hz1,← zal w1 (.cells #[.slice (some ⟨w.heap.size,0,none⟩) nn nn] 48) rfl]
  exact Own.made _ 39 [.slice none 0 0]
 have kb:=ho.below b3 ho.lt
 rw [← List.map_replicate] at kb
 obtain ⟨w3,e3⟩ : ∃ w',((w1.alloc (.cells #[.slice (some ⟨w.heap.size,0,none⟩) nn nn] 48)).alloc (.cells #[.slice none 0 0] 39)) = w':=⟨_,rfl⟩
 rw [e3] at b3 B3 k5 k6 kb ⊢
 obtain ⟨s5,h5⟩ : ∃ s5,w.heap.size + 1 = s5:=⟨_,rfl⟩
 obtain ⟨s6,h6⟩ : ∃ s6,s5 + 1 = s6:=⟨_,rfl⟩
 rw [h5,h6] at k6
 rw [h5] at k5 ⊢
 rw [h6]
 have H : Rm w3 w.heap.size s5 s6 w.heap.size nn (List.replicate nn false) (.slice none 0 0) []:=⟨k5,k6,kb,World.ownsRow_nil w3 _ _ _,by simp⟩
 clear e3 k5 k6 kb b3 ho hz1 b1
 have hY3:=hY.on B3
 have hA : np ≠ 0 → ∀ b off,Ap = some ⟨b,off,none⟩ → ¬ tR s5 s6 w.heap.size (.slice none 0 0) b:=fun h0 b off e ht => by
  obtain ⟨b',off',x,e',_,_⟩:=hY.at (k:=0) (by omega)
  obtain ⟨x',hx⟩:=zat hY.1 (k:=0) (by omega)
  obtain ⟨b2,o2,e2,hlt,_⟩:=hY.2 0 _ hx
  rw [e] at e2
  injection e2 with e2
  injection e2 with e2 _
  rcases ht with h | h | h | h
  ·omega
  ·omega
  ·omega
  cases h
 have HA:=Lib.hid hA
 have HST : Hid (Rv N (fun p => (p : Int) ∈ Y) (awF (List.replicate nn false,[]) Y).1 (awF (List.replicate nn false,[]) Y).2):=Lib.hid (by rw [← H2.out]; exact Rv.start (by rw [H2.out]; exact HP.out))
 have H0 : cntF (List.replicate nn false) = nn:=by simp [cntF]
 have H1 : Hid ((awF (List.replicate nn false,[]) Y).2.length + cntF (awF (List.replicate nn false,[]) Y).1 = nn):=Lib.hid (by
  have:=(aw_all (B:=List.replicate nn false) (T:=[]) (Y:=Y) (by rw [List.length_replicate]; exact HP.out)).meas
  rw [this,H0]
  simp)
 clear hA
 go_wp2_with (go_at_call 80; (with_reducible refine (sawait_as H hY3 HP.out HA.out hnp (by rw [H0]; simp; omega) B3.size).mono ?_); (rintro en w4 ⟨rfl,v4,F4⟩))
 have B4 : Hid (Below w.heap.size w w4):=Lib.hid (B3.trans (F4.kx.below B3.size (fun x hx => by
  rcases hx with h | h | h | h
  ·omega
  ·omega
  ·omega
  cases h)))
 have HR4:=Lib.hid F4.rm
 clear F4 H hY3 B3 HA H0 hY HP
 go_loopw [] (fun wr => ∃ (B : List Bool) (v : Value) (T : List Int),Hid (Rm wr w.heap.size s5 s6 w.heap.size nn B v T) ∧ Hid (Rv N (fun p => (p : Int) ∈ Y) B T) ∧ Hid (T.length + cntF B ≤ nn) ∧ Hid (Below w.heap.size w wr)) (fun wr => meW wr s6 w.heap.size)
 case atStart => exact ⟨_,_,_,HR4,HST,Lib.hid (Nat.le_of_eq H1.out),B4⟩
 clear HR4 HST H1 B4
 obtain ⟨B,v,T,HR,HV,HM,HB⟩:=hrel
 have R:=HR.out
 have a5 : wr.cell? ⟨s5,0,none⟩ = some (.slice (some ⟨w.heap.size,0,none⟩) nn nn):=R.b5.cell 0
 rcases snocI T with rfl | ⟨V,t,rfl⟩
 ·obtain ⟨A6,c6,rfl,sw6,_⟩:=zaP R.rt
  have a6 : wr.cell? ⟨s6,0,none⟩ = some (.slice A6 ([] : List Int).length c6):=R.b6.cell 0
  have e0 : decide ((0 : Int) < (([] : List Int).length : Int)) = false:=by simp
  clear R
  go_wp2_with fail
  go_ret
  exact ⟨w.heap.size,B,rfl,HR.out.rb,HR.out.bl,fun p => HV.out.done p,Nat.le_refl _,HB.out⟩
 obtain ⟨b6,c6,rfl,hc6,cq,hpop⟩:=row_last R.rt
 obtain ⟨q,rfl,hq⟩:=HV.out.wt t (by simp)
 rw [H2.out] at hq
 have a6 : wr.cell? ⟨s6,0,none⟩ = some (.slice (some ⟨b6,0,none⟩) (V.length + 1) c6):=R.b6.cell 0
 have f6:=R.b6.free 0
 have hml : V.length + 1 + cntF B ≤ nn:=by have:=HM.out; rw [List.length_append,List.length_singleton] at this; exact this
 have hme : meW wr s6 w.heap.size = V.length + 1 + cntF B:=by rw [R.me,List.length_append,List.length_singleton]
 have HML:=Lib.hid hml
 have H1:=Lib.hid hme
 have hlV : V.length + 1 ≤ 100000:=by omega
 have q3 : IntKind.i64.wrap (((V.length : Nat) : Int) + 1 - 1) = (V.length : Int):=by rw [IntKind.wrap_i64]; omega
 have j2 : (0 : Int) ≤ (V.length : Int):=by omega
 have j3 : (V.length : Int) < (V.length : Int) + 1:=by omega
 have j4 : (V.length : Int) ≤ (c6 : Int):=by omega
 have hq0 : (0 : Int) ≤ (q : Int):=by omega
 have hqn : (q : Int) < (nn : Int):=by omega
 have R5:=Lib.hid (R.pop hpop)
 have B5 : Hid (Below w.heap.size w (wr.setCell ⟨s6,0,none⟩ (.slice (some ⟨b6,0,none⟩) V.length c6))):=Lib.hid (HB.out.setCell (p:=⟨s6,0,none⟩) (by show w.heap.size ≤ s6; omega) _)
 clear R hpop hml hme
 go_upto_region 8 with fail
 obtain ⟨w5,e5⟩ : ∃ w',wr.setCell ⟨s6,0,none⟩ (.slice (some ⟨b6,0,none⟩) V.length c6) = w':=⟨_,rfl⟩
 rw [e5] at R5 B5 ⊢
 clear e5 a5 a6 f6 cq
 obtain ⟨bn,off,x1,x2,x3,x4,eA,HX,hA⟩:=(hN.on B5.out).nat hq
 subst eA
 have HN : Hid (N.getD q nd0 = ⟨x1,x2,x3,x4⟩):=Lib.hid (by rw [List.getD_eq_getElem?_getD,HX.out]; rfl)
 have a0:=hA.c1; have a1:=hA.c2; have a2:=hA.c3; have a3:=hA.c4
 go_wp2_with fail
 refine (usesR_as x1 x2 x3 x4 _).mono ?_
 rintro en w6 ⟨Au,mu,cu,rfl,hru,hm3,hiu,bu⟩
 have R6:=R5.out.on bu
 have H5:=R5.out.b5.lt
 have H4:=R5.out.b6.lt
 have H3:=R5.out.rb.lt
 have hltr:=(R5.out.rt.lt b6 rfl).2
 have H6 : Plc nn (zag ⟨x1,x2,x3,x4⟩):=by rw [← HN.out]; exact HU.out q hq
 have hAu : mu ≠ 0 → ∀ b off,Au = some ⟨b,off,none⟩ → ¬ tR s5 s6 w.heap.size (.slice (some ⟨b6,0,none⟩) V.length c6) b:=fun _ b off e ht => by
  have h1 : w5.heap.size ≤ b:=(hru.lt b (by rw [e]; rfl)).1
  rcases ht with h | h | h | h
  ·omega
  ·omega
  ·omega
  have : b6 = b:=by injection h
  omega
 have B6:=Lib.hid (B5.out.trans (bu.mono B5.out.size))
 have H7 : Hid (Rv N (fun p => (p : Int) ∈ Y) (awF (B,V) (zag ⟨x1,x2,x3,x4⟩)).1 (awF (B,V) (zag ⟨x1,x2,x3,x4⟩)).2 ∧ (awF (B,V) (zag ⟨x1,x2,x3,x4⟩)).2.length + cntF (awF (B,V) (zag ⟨x1,x2,x3,x4⟩)).1 = V.length + cntF B):=Lib.hid (by
  have:=HV.out.pop (by rw [HN.out,H2.out]; exact H6)
  rw [HN.out] at this
  exact this)
 have hmm : V.length + cntF B < 1000000:=by have:=HML.out; omega
 have hbs:=B6.out.size
 clear a0 a1 a2 a3 hA R5 hru bu H5 H4 H3
 go_wp2_with (go_at_call 80; (with_reducible refine (sawait_as R6 hiu H6 hAu (by omega) hmm hbs).mono ?_); (rintro en w7 ⟨rfl,v7,F7⟩))
 have hlr:=F7.rm.rt
 have B7 : Hid (Below w.heap.size w w7):=Lib.hid (B6.out.trans (F7.kx.below hbs (fun x hx => by
  rcases hx with h | h | h | h
  ·omega
  ·omega
  ·omega
  have:=(R6.rt.lt x h).1
  exact this)))
 have H8 : Hid (meW w7 s6 w.heap.size < meW wr s6 w.heap.size):=Lib.hid (by
  rw [F7.rm.me,H1.out,H7.out.2]
  omega)
 have HR7:=Lib.hid F7.rm
 have HM7 : Hid ((awF (B,V) (zag ⟨x1,x2,x3,x4⟩)).2.length + cntF (awF (B,V) (zag ⟨x1,x2,x3,x4⟩)).1 ≤ nn):=Lib.hid (by rw [H7.out.2]; have:=HML.out; omega)
 have HV7:=Lib.hid H7.out.1
 clear F7 R6 hiu hlr hAu H6
 go_roundw
 case rel => exact ⟨_,_,_,HR7,HV7,HM7,B7⟩
 case measure => exact H8.out
set_option maxRecDepth 4000
set_option maxHeartbeats 8000000 in
theorem sports_as {An Ai Ao : Option Addr} {nn cn ni ci no co : Nat} {N : List Nd} {I O : List Pt} {w : World} (h : Nt w An nn cn Ai ni ci Ao no co N I O) (hni : ni ≤ 66) (hno : no ≤ 66) (hb : ∀ p ∈ I ++ O,p.bits.length ≤ 4000) {Y : List Int} (hY : zah I ++ zah O = Y) :
  Calls Try.prog 57 #[.agg #[.slice An nn cn,.slice Ai ni ci,.slice Ao no co]] w fun en w' => ∃ A m c,en = .returned (.slice A m c) ∧ w'.ownsRow w.heap.size 3 1 (.slice A m c) m (Y.flatMap inC) ∧ m ≤ 600000 ∧ Is w' A m Y ∧ Below w.heap.size w w':=by
 have HB:=Lib.hid hb
 have HY:=Lib.hid hY
 clear hb hY
 go_enter Try.func57,Try.ntmps57
 go_upto_region 1 with fail
 obtain ⟨w1,e_w1⟩ : ∃ w',w.alloc (.cells #[.slice An nn cn,.slice Ai ni ci,.slice Ao no co] 25) = w':=⟨_,rfl⟩
 have z0 : Own w1 w.heap.size 25 [.slice An nn cn,.slice Ai ni ci,.slice Ao no co]:=e_w1 ▸ Own.made w 25 [.slice An nn cn,.slice Ai ni ci,.slice Ao no co]
 have BW : Below w.heap.size w w1:=e_w1 ▸ zaa _ _
 rw [e_w1]
 clear e_w1
 have hI:=h.i
 have hO:=h.o
 have c1 : w1.cell? ⟨w.heap.size,1,none⟩ = some (.slice Ai ni ci):=z0.cell 1
 go_wp2_with fail
 clear c1
 go_loopw [3,11] (fun tv iv wr => ∃ (vt : Value) (j : Nat),vt = tv ∧ j ≤ ni ∧ iv = .int .i64 j ∧ Hid (wr.ownsRow w.heap.size 3 1 vt (zah (I.take j)).length ((zah (I.take j)).flatMap inC)) ∧ (zah (I.take j)).length ≤ 0 + j * 4000 ∧ Hid (Own wr w.heap.size 25 [.slice An nn cn,.slice Ai ni ci,.slice Ao no co]) ∧ Below w.heap.size w wr) (fun _ iv _ => ni - (intOf iv).toNat)
 case atStart => exact ⟨_,0,rfl,Nat.zero_le _,rfl,Lib.hid (World.ownsRow_nil w1 _ _ _),Nat.zero_le _,Lib.hid z0,BW⟩
 clear BW z0
 obtain ⟨vt,j,rfl,hj,rfl,HROW,hlen,HZ,BR⟩:=hrel
 by_cases hlt : j < ni
 ·obtain ⟨⟨nm,bs⟩,hp⟩:=zat hI.1 hlt
  obtain ⟨b0,off,A',m,c',eA,h2,k1,k2,h5,h6,hi⟩:=(hI.on BR).2 j ⟨nm,bs⟩ hp
  have HP:=Lib.hid hp
  dsimp only at k1 k2 hi
  subst eA
  have H5 : (j : Int) < (ni : Int):=by omega
  have hj0 : (0 : Int) ≤ (j : Int):=by omega
  have hm4 : m ≤ 4000:=by rw [← hi.1]; exact HB.out _ (List.mem_append_left _ (List.mem_of_getElem? hp))
  clear hp
  go_upto_region 5 with fail
  obtain ⟨w9,e_w9,z9,b9⟩:=zmB wr [.string nm,.slice A' m c'] 41
  rw [e_w9]
  have H1:=zam HROW.out b9
  have hZ9:=HZ.out.below b9 HZ.out.lt
  have H3:=hi.on b9
  have H4:=Below.step BR b9
  clear e_w9 k1 k2 h2 b9 HROW hi
  have c1:=z9.2 1 _ rfl
  have H0 : w.heap.size ≤ w9.heap.size:=H4.size
  have hTl : (zah (I.take j)).length ≤ 600000:=by omega
  go_wp2_with (at_builtin; refine zax (A:=A') (m:=m) (c:=c') rfl _ _ 39 rfl zbI (by omega) (by omega) w.heap.size _ _ _ rfl H1 (bs.flatMap inC) rfl (fun e => ⟨by have:=h5.2 e; omega,h5.2 e⟩) (by rw [zas inC 1 zaC,H3.1]) H3.cells (one_in _) (by omega) H0 ?_; intro v2 w5 hr5 hg5)
  have hZ5:=Lib.hid (zcV hZ9 H1 hg5 (by decide))
  have H7:=H4.grown hg5 H0 (fun k hk => (H1.lt k hk).1)
  have e0 : zah (I.take (j + 1)) = (zah (I.take j)) ++ bs:=by rw [zcc HP.out]
  have e1 : (zah (I.take j)).length + m = (zah (I.take (j + 1))).length:=by
   have:=H3.1
   rw [e0]
   simp only [List.length_append]
   omega
  rw [← List.flatMap_append,e1,← e0] at hr5
  have H2:=Lib.hid hr5
  have H6 : (zah (I.take (j + 1))).length ≤ 0 + (j + 1) * 4000:=by rw [← e1]; omega
  clear hr5 e1 e0 H1
  go_roundw
  case rel => exact ⟨v2,j + 1,rfl,by omega,by go_num,H2,H6,hZ5,H7⟩
  case measure => simp [intOf]; omega
 obtain rfl : j = ni:=by omega
 have H5 : ¬ (j : Int) < (j : Int):=by omega
 have eL : I.take j = I:=List.take_of_length_le (by rw [hI.1]; omega)
 rw [eL] at HROW hlen
 have c2 : wr.cell? ⟨w.heap.size,2,none⟩ = some (.slice Ao no co):=HZ.out.cell 2
 go_wp2_with fail
 clear c2
 go_loopw [3,23] (fun tv iv wr => ∃ (vt : Value) (j : Nat),vt = tv ∧ j ≤ no ∧ iv = .int .i64 j ∧ Hid (wr.ownsRow w.heap.size 3 1 vt (zah I ++ zah (O.take j)).length ((zah I ++ zah (O.take j)).flatMap inC)) ∧ (zah I ++ zah (O.take j)).length ≤ 264000 + j * 4000 ∧ Below w.heap.size w wr) (fun _ iv _ => no - (intOf iv).toNat)
 case atStart => exact ⟨_,0,rfl,Nat.zero_le _,rfl,Lib.hid (by rw [List.take_zero]; simpa [zah] using HROW.out),by simp [zah] at hlen ⊢; omega,BR⟩
 clear HROW hlen BR
 obtain ⟨vt,j,rfl,hj,rfl,HROW,hlen,BR⟩:=hrel
 by_cases hlt : j < no
 ·obtain ⟨⟨nm,bs⟩,hp⟩:=zat hO.1 hlt
  obtain ⟨b0,off,A',m,c',eA,h2,k1,k2,h5,h6,hi⟩:=(hO.on BR).2 j ⟨nm,bs⟩ hp
  have HP:=Lib.hid hp
  dsimp only at k1 k2 hi
  subst eA
  have H5 : (j : Int) < (no : Int):=by omega
  have hj0 : (0 : Int) ≤ (j : Int):=by omega
  have hm4 : m ≤ 4000:=by rw [← hi.1]; exact HB.out _ (List.mem_append_right _ (List.mem_of_getElem? hp))
  clear hp
  go_upto_region 10 with fail
  obtain ⟨w9,e_w9,z9,b9⟩:=zmB wr [.string nm,.slice A' m c'] 41
  rw [e_w9]
  have H1:=zam HROW.out b9
  have H3:=hi.on b9
  have H4:=Below.step BR b9
  clear e_w9 k1 k2 h2 b9 HROW hi
  have c1:=z9.2 1 _ rfl
  have H0 : w.heap.size ≤ w9.heap.size:=H4.size
  have hTl : (zah I ++ zah (O.take j)).length ≤ 600000:=by omega
  go_wp2_with (at_builtin; refine zax (A:=A') (m:=m) (c:=c') rfl _ _ 39 rfl zbI (by omega) (by omega) w.heap.size _ _ _ rfl H1 (bs.flatMap inC) rfl (fun e => ⟨by have:=h5.2 e; omega,h5.2 e⟩) (by rw [zas inC 1 zaC,H3.1]) H3.cells (one_in _) (by omega) H0 ?_; intro v2 w5 hr5 hg5)
  have H7:=H4.grown hg5 H0 (fun k hk => (H1.lt k hk).1)
  have e0 : zah I ++ zah (O.take (j + 1)) = (zah I ++ zah (O.take j)) ++ bs:=by rw [zcc HP.out,List.append_assoc]
  have e1 : (zah I ++ zah (O.take j)).length + m = (zah I ++ zah (O.take (j + 1))).length:=by
   have:=H3.1
   rw [e0]
   simp only [List.length_append]
   omega
  rw [← List.flatMap_append,e1,← e0] at hr5
  have H2:=Lib.hid hr5
  have H6 : (zah I ++ zah (O.take (j + 1))).length ≤ 264000 + (j + 1) * 4000:=by rw [← e1]; omega
  clear hr5 e1 e0 H1
  go_roundw
  case rel => exact ⟨v2,j + 1,rfl,by omega,by go_num,H2,H6,H7⟩
  case measure => simp [intOf]; omega
 obtain rfl : j = no:=by omega
 have H5 : ¬ (j : Int) < (j : Int):=by omega
 have eL : O.take j = O:=List.take_of_length_le (by rw [hO.1]; omega)
 rw [eL] at HROW hlen
 rw [HY.out] at HROW hlen
 obtain ⟨k,hk⟩ : ∃ k,Y.length = k:=⟨_,rfl⟩
 rw [hk] at HROW hlen
 obtain ⟨A6,c6,rfl,sw6,_,his⟩:=za4 HROW.out
 clear hk
 go_wp2_with fail
 go_ret
 exact ⟨A6,_,c6,rfl,HROW.out,by omega,his,BR⟩
set_option maxRecDepth 4000
theorem zeb {n : Nat} {Y : List Int} (h : Y.all (zaj n) = true) : Plc n Y:=fun y hy => by
 have:=List.all_eq_true.1 h y hy
 unfold zaj at this
 simp at this
 exact ⟨y.toNat,by omega,by omega⟩
theorem zcj {N : List Nd} {n : Nat} (h : N.all (zaf n) = true) (hn : N.length = n) : ∀ q,q < n → Plc n (zag (N.getD q nd0)):=fun q hq => by
 have h1 : N.getD q nd0 ∈ N:=by
  rw [List.getD_eq_getElem?_getD,List.getElem?_eq_getElem (by omega)]
  exact List.getElem_mem _
 have h2:=List.all_eq_true.1 h _ h1
 unfold zaf at h2
 simp only [Bool.and_eq_true] at h2
 exact zeb h2.2.2.1
theorem plc_ports {n : Nat} {L : List Pt} (h : ∀ p ∈ L,zaM n p = true) : Plc n (zah L):=fun y hy => by
 unfold zah at hy
 obtain ⟨p,hp,hy⟩:=List.mem_flatMap.1 hy
 have h1:=h p hp
 unfold zaM at h1
 exact zeb (Bool.and_eq_true_iff.1 h1).2 y hy
def CtS (N : List Nd) (I O : List Pt) (w' : World) (g nn : Nat) (B : List Bool) : Prop:=Own w' g 4 (B.map .bool) ∧ B.length = nn ∧ ∀ p,B.getD p false = true ↔ Rch N (fun p => (p : Int) ∈ zah I ++ zah O) p
set_option maxHeartbeats 8000000 in
theorem scount_yes {An Ai Ao : Option Addr} {nn cn ni ci no co : Nat} {N : List Nd} {I O : List Pt} {w : World} (h : Nt w An nn cn Ai ni ci Ao no co N I O) (hni : ni ≤ 66) (hno : no ≤ 66) (hb : ∀ p ∈ I ++ O,p.bits.length ≤ 4000) {dd L : List Nat} (lx : LvN N I O dd L) :
  Calls Try.prog 28 #[.agg #[.slice An nn cn,.slice Ai ni ci,.slice Ao no co]] w fun en w' => (∃ g B,en = .returned (.tuple #[.slice (some ⟨g,0,none⟩) nn nn,.int .i64 0]) ∧ CtS N I O w' g nn B ∧ w.heap.size ≤ g) ∧ Below w.heap.size w w':=by
 have HB:=Lib.hid hb
 have LX:=Lib.hid lx
 have H0:=Lib.hid h.n.1
 have HU : Hid (∀ q,q < nn → Plc nn (zag (N.getD q nd0))):=Lib.hid (zcj (by rw [← H0.out]; exact LX.out.fm) H0.out)
 have HP : Hid (Plc nn (zah I ++ zah O)):=Lib.hid (by
  have:=plc_ports (n:=nn) (L:=I ++ O) (fun p hp => by rw [← H0.out]; exact List.all_eq_true.1 LX.out.bits p hp)
  unfold zah at this ⊢
  rw [List.flatMap_append] at this
  exact this)
 have hnn:=h.hn
 clear hb lx
 go_enter Try.func28,Try.ntmps28
 go_upto_region 1 with fail
 obtain ⟨w1,e_w1,z0,BW⟩:=zmB w [.slice An nn cn,.slice Ai ni ci,.slice Ao no co] 25
 rw [e_w1]
 clear e_w1
 replace h:=h.on BW
 obtain ⟨c0,c1,c2⟩:=z0.zb3
 go_wp2_with fail
 refine (zfh h LX.out.lev).mono ?_
 rintro en w2 ⟨rfl,b⟩
 clear c0 c1 c2
 replace h:=h.on b
 replace z0:=z0.on b
 replace BW:=Below.step BW b
 clear b
 go_upto_region 4 with fail
 obtain ⟨Y,hY⟩ : ∃ Y,zah I ++ zah O = Y:=⟨_,rfl⟩
 have HY:=Lib.hid hY
 rw [hY] at HP
 clear hY
 refine LexG.region_plan LexG.below_ok 0 [0,1,2,3,4,5,6] (h:=?_)
 dsimp only [LexG.pick,LexG.nth]
 have bd : Below w2.heap.size w2 w2.drew:=(Below.refl _ _).drew
 replace h:=h.on bd
 replace z0:=z0.on bd
 replace BW:=Below.step BW bd
 obtain ⟨w4,e4⟩ : ∃ w',w2.drew = w':=⟨_,rfl⟩
 rw [e4] at h z0 BW ⊢
 clear e4 bd
 have lf0:=fun s : LexG.Wd (fun w w' => Below w.heap.size w w') w4 => (z0.on s.rel).n0
 have lf1:=fun s : LexG.Wd (fun w w' => Below w.heap.size w w') w4 => (z0.on s.rel).n1
 have lf2:=fun s : LexG.Wd (fun w w' => Below w.heap.size w w') w4 => (z0.on s.rel).n2
 refine LexG.lex_plain 3 (by kernel_rfl) ?_
 dsimp only [List.take,List.drop]
 repeat go_big_quiet_step (fail)
 refine wpQuiet_nil ?_
 clear lf0 lf1 lf2
 refine LexG.lex_call (h:=fun K hK => ?_)
 go_simp
 refine (sports_as h hni hno HB.out HY.out).mono ?_
 rintro en w5 ⟨A,m,c,rfl,hrow,hm6,his,b⟩
 dsimp only
 refine hK _ _ b ?_
 clear hK K
 replace h:=h.on b
 replace BW:=Below.step BW b
 clear b z0 hrow
 refine LexG.lex_call (h:=fun K hK => ?_)
 go_simp
 refine (sreached_as h.n hnn HU.out his HP.out (by omega)).mono ?_
 rintro en w6 ⟨g,B,rfl,hown,hlb,hrc,hg,b⟩
 dsimp only
 refine hK _ _ b ?_
 clear hK K
 have hgs : w.heap.size ≤ g:=Nat.le_trans BW.size hg
 replace BW:=Below.step BW b
 have HCT : Hid (CtS N I O w6 g nn B):=Lib.hid ⟨hown,hlb,fun p => by rw [HY.out]; exact hrc p⟩
 clear b hown hlb hrc h
 refine LexG.lex_plain 2 (by kernel_rfl) ?_
 dsimp only [List.take,List.drop]
 repeat go_big_quiet_step (fail)
 refine wpQuiet_nil ?_
 refine LexG.lex_nil ?_
 dsimp only [NoPanic]
 go_wp2_with fail
 go_ret2
 exact ⟨⟨g,B,rfl,HCT.out,hgs⟩,BW⟩
set_option maxRecDepth 4000
def kpL (N : List Nd) (B : List Bool) (j : Nat) : List Nd:=((List.range j).filter fun p => B.getD p false).map fun q => N.getD q nd0
theorem zeD {N : List Nd} {B : List Bool} {j : Nat} (h : B.getD j false = true) : kpL N B (j + 1) = kpL N B j ++ [N.getD j nd0]:=by
 unfold kpL
 rw [List.range_succ,List.filter_append,List.map_append,List.filter_cons_of_pos (p:=fun p => B.getD p false) h]
 rfl
theorem kpL_f {N : List Nd} {B : List Bool} {j : Nat} (h : B.getD j false = false) : kpL N B (j + 1) = kpL N B j:=by
 unfold kpL
 rw [List.range_succ,List.filter_append,List.map_append,List.filter_cons_of_neg (p:=fun p => B.getD p false) (by rw [h]; decide),List.filter_nil,List.map_nil,List.append_nil]
theorem zcr (N : List Nd) (B : List Bool) (j : Nat) : (kpL N B j).length ≤ j:=by
 unfold kpL
 rw [List.length_map]
 have:=List.length_filter_le (fun p => B.getD p false) (List.range j)
 rw [List.length_range] at this
 exact this
def plF (N : List Nd) (B : List Bool) (q : Nat) : Int:=if B.getD q false = true then ((kpL N B q).length : Int) else 0
def plS (N : List Nd) (B : List Bool) (j nn : Nat) : List Int:=(List.range nn).map fun q => if q < j then plF N B q else 0
theorem ze6 (N : List Nd) (B : List Bool) (j nn : Nat) : (plS N B j nn).length = nn:=by simp [plS]
theorem plS_0 (N : List Nd) (B : List Bool) (nn : Nat) : plS N B 0 nn = zI nn:=by
 apply List.ext_getElem
 ·simp [plS,zI]
 intro i h1 h2
 simp [plS,zI]
theorem plS_f {N : List Nd} {B : List Bool} {j nn : Nat} (h : B.getD j false = false) : plS N B (j + 1) nn = plS N B j nn:=by
 apply List.ext_getElem
 ·simp [plS]
 intro i h1 h2
 simp only [plS,List.getElem_map,List.getElem_range]
 by_cases e : i = j
 ·subst e
  rw [if_pos (by omega),if_neg (by omega)]
  unfold plF
  rw [if_neg (by rw [h]; decide)]
 by_cases e2 : i < j
 ·rw [if_pos (by omega),if_pos e2]
 rw [if_neg (by omega),if_neg e2]
theorem plS_t {N : List Nd} {B : List Bool} {j nn : Nat} (h : B.getD j false = true) (hj : j < nn) : plS N B (j + 1) nn = (plS N B j nn).set j ((kpL N B j).length : Int):=by
 apply List.ext_getElem
 ·simp [plS]
 intro i h1 h2
 rw [List.getElem_set]
 simp only [plS,List.getElem_map,List.getElem_range]
 by_cases e : i = j
 ·subst e
  rw [if_pos (by omega),if_pos rfl]
  unfold plF
  rw [if_pos h]
 by_cases e2 : i < j
 ·rw [if_pos (show i < j + 1 by omega),if_neg (fun k => e k.symm),if_pos e2]
 rw [if_neg (show ¬ i < j + 1 by omega),if_neg (fun k => e k.symm),if_neg e2]
def KpS (N : List Nd) (B : List Bool) (nn : Nat) (w w' : World) (en : Ending) : Prop:=∃ (A : Option Addr) (m c gp : Nat),en = .returned (.tuple #[.slice A m c,.slice (some ⟨gp,0,none⟩) nn nn]) ∧ w'.ownsRow w.heap.size 43 4 (.slice A m c) m ((kpL N B nn).flatMap ndC) ∧ (kpL N B nn).length = m ∧ Own w' gp 3 ((plS N B nn nn).flatMap inC) ∧ w.heap.size ≤ gp
attribute [local go_sem] zei
set_option maxHeartbeats 8000000 in
theorem skept_as {w : World} {An : Option Addr} {nn cn g : Nat} {N : List Nd} (hN : Ns w An nn N) (hnn : nn ≤ 100000) {B : List Bool} (hown : Own w g 4 (B.map .bool)) (hlb : B.length = nn) :
  Calls Try.prog 53 #[.slice An nn cn,.slice (some ⟨g,0,none⟩) nn nn] w fun en w' => KpS N B nn w w' en ∧ Below w.heap.size w w':=by
 go_enter Try.func53,Try.ntmps53
 go_upto_region 3 with fail
 obtain ⟨w1,e1⟩ : ∃ w',w.alloc (.cells ((zI nn).flatMap inC).toArray 3) = w':=⟨_,rfl⟩
 have hp : Own w1 w.heap.size 3 ((zI nn).flatMap inC):=e1 ▸ Own.made w 3 _
 have BW : Below w.heap.size w w1:=e1 ▸ zaa _ _
 rw [e1]
 clear e1
 have hgw:=hown.lt
 obtain ⟨gp,hgp⟩ : ∃ gp,w.heap.size = gp:=⟨_,rfl⟩
 have HGP : Hid (w.heap.size ≤ gp):=Lib.hid (Nat.le_of_eq hgp)
 rw [hgp] at hp ⊢
 clear hgp
 go_wp2_with fail
 go_loopw [6,15] (fun tv iv wr => ∃ (vt : Value) (j : Nat),vt = tv ∧ j ≤ nn ∧ iv = .int .i64 j ∧ Hid (wr.ownsRow w.heap.size 43 4 vt (kpL N B j).length ((kpL N B j).flatMap ndC)) ∧ Hid (Own wr gp 3 ((plS N B j nn).flatMap inC)) ∧ Hid (Below w.heap.size w wr)) (fun _ iv _ => nn - (intOf iv).toNat)
 case atStart => exact ⟨_,0,rfl,Nat.zero_le _,rfl,Lib.hid (World.ownsRow_nil w1 _ _ _),Lib.hid (by rw [plS_0]; exact hp),Lib.hid BW⟩
 clear hp BW
 obtain ⟨vt,j,rfl,hj,rfl,HROW,HPL,HB⟩:=hrel
 by_cases hlt : j < nn
 ·have hjn : (j : Int) < (nn : Int):=by omega
  have hj0 : (0 : Int) ≤ (j : Int):=by omega
  obtain ⟨bn,off,x1,x2,x3,x4,eA,HX,hA⟩:=(hN.on HB.out).nat hlt
  have HNX : Hid (N.getD j nd0 = ⟨x1,x2,x3,x4⟩):=Lib.hid (by rw [List.getD_eq_getElem?_getD,HX.out]; rfl)
  subst eA
  have a0:=hA.c1; have a1:=hA.c2; have a2:=hA.c3; have a3:=hA.c4
  go_upto_region 6 with fail
  obtain ⟨w9,e_w9⟩ : ∃ w',wr.alloc (.cells #[.int .i64 x1,.int .i64 x2,.int .i64 x3,.int .i64 x4] 43) = w':=⟨_,rfl⟩
  have z9 : Own w9 wr.heap.size 43 [.int .i64 x1,.int .i64 x2,.int .i64 x3,.int .i64 x4]:=e_w9 ▸ Own.made wr 43 [.int .i64 x1,.int .i64 x2,.int .i64 x3,.int .i64 x4]
  have b9 : Below wr.heap.size wr w9:=e_w9 ▸ zaa _ _
  rw [e_w9]
  have H2:=zam HROW.out b9
  have H0:=HPL.out.below b9 HPL.out.lt
  have H6:=Below.step HB.out b9
  have hbl:=hown.below H6 hgw
  have hsz9:=b9.size
  have Hb:=HB.out.size
  clear e_w9 b9 a0 a1 a2 a3 hA HROW HPL
  obtain ⟨s9,hs9⟩ : ∃ s9,wr.heap.size = s9:=⟨_,rfl⟩
  rw [hs9] at z9 Hb ⊢
  obtain ⟨u,hu⟩ : ∃ u,B.getD j false = u:=⟨_,rfl⟩
  have a1 : w9.cell? ⟨g,j,none⟩ = some (.bool u):=by
   rw [hbl.cell j,List.getElem?_map,List.getElem?_eq_getElem (by omega)]
   rw [List.getD_eq_getElem?_getD,List.getElem?_eq_getElem (by omega)] at hu
   exact congrArg (fun b => some (Value.bool b)) hu
  have HU:=Lib.hid hu
  clear hu hs9 hbl
  cases u
  ·have HR2 : Hid (w9.ownsRow w.heap.size 43 4 vt (kpL N B (j + 1)).length ((kpL N B (j + 1)).flatMap ndC)):=Lib.hid (by rw [kpL_f HU.out]; exact H2)
   have HP2 : Hid (Own w9 gp 3 ((plS N B (j + 1) nn).flatMap inC)):=Lib.hid (by rw [plS_f HU.out]; exact H0)
   have HB2:=Lib.hid H6
   clear H2 H0 H6 z9
   go_wp2_with fail
   go_roundw
   case rel => exact ⟨vt,j + 1,rfl,by omega,by go_num,HR2,HP2,HB2⟩
   case measure => simp [intOf]; omega
  have Hc:=zcr N B j
  obtain ⟨k,hk⟩ : ∃ k,(kpL N B j).length = k:=⟨_,rfl⟩
  have HK:=Lib.hid hk
  rw [hk] at H2 Hc
  clear hk
  obtain ⟨A5,c5,rfl,sw5,_⟩:=zaP H2
  have f1:=H0.free j
  have p1 : w9.cell? ⟨gp,j,none⟩ = some (.int .i64 0):=by
   rw [H0.cell j]
   have e:=zap inC 1 zaC (plS N B j nn) j 0 (by omega)
   rw [Nat.mul_one,Nat.add_zero] at e
   rw [e,List.getElem?_eq_getElem (by rw [ze6]; exact hlt)]
   simp [plS,inC]
  go_upto_region 8 with fail
  have P2:=H0.put j (.int .i64 (k : Int))
  rw [zca,← HK.out,← plS_t HU.out hlt,HK.out] at P2
  have R2:=zaI H2 H0 (by decide) j (.int .i64 (k : Int))
  have Z2:=z9.apart (zaK z9 H0 (by decide)) j (.int .i64 (k : Int))
  have B2:=H6.setCell (p:=⟨gp,j,none⟩) HGP.out (.int .i64 (k : Int))
  obtain ⟨w10,e10⟩ : ∃ w',w9.setCell ⟨gp,j,none⟩ (.int .i64 (k : Int)) = w':=⟨_,rfl⟩
  rw [e10] at P2 R2 Z2 B2 ⊢
  clear e10 f1 p1 a1 H0 H2 z9 H6
  have c0 : w10.cell? ⟨s9,0,none⟩ = some (.int .i64 x1):=Z2.cell 0
  have c1 : w10.cell? ⟨s9,1,none⟩ = some (.int .i64 x2):=Z2.cell 1
  have c2 : w10.cell? ⟨s9,2,none⟩ = some (.int .i64 x3):=Z2.cell 2
  have c3 : w10.cell? ⟨s9,3,none⟩ = some (.int .i64 x4):=Z2.cell 3
  obtain ⟨w11,e_w11⟩ : ∃ w',w10.alloc (.cells #[.int .i64 x1,.int .i64 x2,.int .i64 x3,.int .i64 x4] 43) = w':=⟨_,rfl⟩
  have H7 : Below w10.heap.size w10 w11:=e_w11 ▸ zaa _ _
  have H8:=zam R2 H7
  have P11:=P2.below H7 P2.lt
  have H9:=Below.step B2 H7
  have H4:=Bx.ns (L:=[⟨x1,x2,x3,x4⟩]) (e_w11 ▸ Bx.made_k w10 rfl #[.int .i64 x1,.int .i64 x2,.int .i64 x3,.int .i64 x4] 43)
  have H1 : w.heap.size ≤ w11.heap.size:=H9.size
  have H5 : ∀ ad : Addr,(some ⟨w10.heap.size,0,none⟩ : Option Addr) = some ad → ∀ (j : Nat) (u : Value),(ndC ⟨x1,x2,x3,x4⟩)[j]? = some u → w11.cell? (ad.add j) = some u:=fun ad e j u hu => H4.cells ad e j u (by simpa using hu)
  have H3 : ∀ u ∈ ndC ⟨x1,x2,x3,x4⟩,u.oneCell' = true:=fun u hu => zdG [⟨x1,x2,x3,x4⟩] u (by simpa using hu)
  have Ha : k + 1 ≤ 1000000:=by omega
  go_wp2_with (at_builtin; refine zax (A:=some ⟨w10.heap.size,0,none⟩) (m:=1) (c:=1) rfl _ _ 22 rfl zbX (by omega) (by omega) w.heap.size _ _ _ rfl H8 (ndC ⟨x1,x2,x3,x4⟩) rfl (fun e => by cases e) rfl H5 H3 Ha H1 ?_; intro v12 w12 R12 G12)
  have P12:=zcV P11 H8 G12 (by decide)
  have B12:=H9.grown G12 H9.size (fun k hk => (H8.lt k hk).1)
  have eT : (kpL N B j).flatMap ndC ++ ndC ⟨x1,x2,x3,x4⟩ = (kpL N B (j + 1)).flatMap ndC:=by rw [zeD HU.out,List.flatMap_append,HNX.out]; simp
  have eL : k + 1 = (kpL N B (j + 1)).length:=by rw [zeD HU.out,List.length_append,HK.out]; rfl
  rw [eT,eL] at R12
  have Hd:=Lib.hid R12
  have He:=Lib.hid P12
  have Hf:=Lib.hid B12
  clear R12 P12 B12 G12 H8 P11 H9 H4 H5 H3 H1 e_w11 H7 eT eL c0 c1 c2 c3 Z2 B2 R2 P2
  go_roundw
  case rel => exact ⟨v12,j + 1,rfl,by omega,by go_num,Hd,He,Hf⟩
  case measure => simp [intOf]; omega
 obtain rfl : j = nn:=by omega
 have hjn : ¬ (j : Int) < (j : Int):=by omega
 obtain ⟨k,hk⟩ : ∃ k,(kpL N B j).length = k:=⟨_,rfl⟩
 have HK:=Lib.hid hk
 rw [hk] at HROW
 obtain ⟨A6,c6,rfl,sw6,_⟩:=zaP HROW.out
 clear hk
 go_wp2_with fail
 go_ret2
 exact ⟨by unfold KpS; exact ⟨A6,k,c6,gp,rfl,HROW.out,HK.out,HPL.out,HGP.out⟩,HB.out⟩
end Go.Proofs.Ytcehklnonhalhaa
namespace Go.Proofs.Ytcehklnonhalhaa
open Go.RowKit
set_option maxRecDepth 4000
set_option maxHeartbeats 4000000 in
theorem moved_a {w : World} {n b0 off cc : Nat} (a : Nat) (b c : Int) (za : Int) (k : Int) (hk : (k == 2) = true ∨ ((k == 2) = false ∧ (k == 7) = true)) (ha : a < n) (ia : IAt w b0 (off + a) za) : Calls Try.prog 54 #[.agg #[.int .i64 k,.int .i64 (a : Int),.int .i64 b,.int .i64 c],.slice (some ⟨b0,off,none⟩) n cc] w fun e w' => e = .returned (.agg #[.int .i64 k,.int .i64 za,.int .i64 b,.int .i64 c]) ∧ Below w.heap.size w w':=by
 rcases hk with c2 | ⟨c2,c7⟩
 all_goals
  have ha1 : (a : Int) < (n : Int):=by omega
  have ha0 : (0 : Int) ≤ (a : Int):=by omega
  clear ha
  go_enter Try.func54,Try.ntmps54
  go_upto_region 1 with fail
  obtain ⟨w1,e1,z0,ZR,BW⟩:=zmE w [.int .i64 k,.int .i64 (a : Int),.int .i64 b,.int .i64 c] 43 [.int .i64 0,.int .i64 0,.int .i64 0,.int .i64 0] 43
  have hb:=Lib.hid ia.1
  replace ia:=ia.on BW
  obtain ⟨s1,hs1⟩ : ∃ s1,w.heap.size + 1 = s1:=⟨_,rfl⟩
  obtain ⟨s0,hs0⟩ : ∃ s0,w.heap.size = s0:=⟨_,rfl⟩
  have hle : s0 ≤ s1:=by omega
  have hne : s0 ≠ s1:=by omega
  rw [e1]
  clear e1
  rw [hs1] at ZR ⊢
  rw [hs0] at z0 BW hb ⊢
  have HS0:=Lib.hid hs0
  clear hs0
  have H1 : _ = some (Value.int .i64 k):=z0.cell 0
  have H0 : _ = some (Value.int .i64 (a : Int)):=z0.cell 1
  have ma:=ia.2
  have f1:=z0.free 1
  go_upto_region 11 with fail
  clear H1 H0 ma f1
  replace z0:=z0.put 1 (.int .i64 za)
  replace ZR:=ZR.apart hne.symm 1 (.int .i64 za)
  replace BW:=BW.setCell (p:=⟨s0,1,none⟩) (Nat.le_refl _) (.int .i64 za)
  obtain ⟨w3,e_w⟩ : ∃ w',w1.setCell ⟨s0,1,none⟩ (.int .i64 za) = w':=⟨_,rfl⟩
  rw [e_w] at z0 ZR BW ⊢
  clear e_w ia
  replace z0 : Own _ s0 43 [.int .i64 k,.int .i64 za,.int .i64 b,.int .i64 c]:=z0
  have H1 : _ = some (Value.int .i64 k):=z0.cell 0
  obtain ⟨H0,z0c2,z0c3⟩:=z0.zoc1c2c3
  obtain ⟨zr0,zf0,zr1,zf1,zr2,zf2,zr3,zf3⟩:=ZR.zoc0f0c1f1c2f2c3f3
  go_wp2_with fail
  have VR:=ZR.p4' (.int .i64 k) (.int .i64 za) (.int .i64 b) (.int .i64 c)
  obtain ⟨p0,p1,p2,p3⟩:=VR.zo4
  refine bodyPost_ret (v:=.agg #[.int .i64 k,.int .i64 za,.int .i64 b,.int .i64 c]) (by simp [results,Try.results54,go_sem,p0,p1,p2,p3]) rfl ⟨rfl,by (try rw [HS0.out]); exact (BW.s4' hle)⟩
set_option maxHeartbeats 4000000 in
theorem moved_b {w : World} {n b0 off cc : Nat} (a b : Nat) (c : Int) (za zb : Int) (k : Int) (c2 : (k == 2) = false) (c7 : (k == 7) = false) (hk : (k == 3) = true ∨ ((k == 3) = false ∧ (k == 4) = true) ∨ ((k == 3) = false ∧ (k == 4) = false ∧ (k == 5) = true)) (ha : a < n) (ia : IAt w b0 (off + a) za) (hb : b < n) (ib : IAt w b0 (off + b) zb) : Calls Try.prog 54 #[.agg #[.int .i64 k,.int .i64 (a : Int),.int .i64 (b : Int),.int .i64 c],.slice (some ⟨b0,off,none⟩) n cc] w fun e w' => e = .returned (.agg #[.int .i64 k,.int .i64 za,.int .i64 zb,.int .i64 c]) ∧ Below w.heap.size w w':=by
 rcases hk with c3 | ⟨c3,c4⟩ | ⟨c3,c4,c5⟩
 all_goals
  have ha1 : (a : Int) < (n : Int):=by omega
  have ha0 : (0 : Int) ≤ (a : Int):=by omega
  clear ha
  have hb1 : (b : Int) < (n : Int):=by omega
  have hb0 : (0 : Int) ≤ (b : Int):=by omega
  clear hb
  go_enter Try.func54,Try.ntmps54
  go_upto_region 1 with fail
  obtain ⟨w1,e1,z0,ZR,BW⟩:=zmE w [.int .i64 k,.int .i64 (a : Int),.int .i64 (b : Int),.int .i64 c] 43 [.int .i64 0,.int .i64 0,.int .i64 0,.int .i64 0] 43
  have hb:=Lib.hid ia.1
  replace ia:=ia.on BW
  replace ib:=ib.on BW
  obtain ⟨s1,hs1⟩ : ∃ s1,w.heap.size + 1 = s1:=⟨_,rfl⟩
  obtain ⟨s0,hs0⟩ : ∃ s0,w.heap.size = s0:=⟨_,rfl⟩
  have hle : s0 ≤ s1:=by omega
  have hne : s0 ≠ s1:=by omega
  rw [e1]
  clear e1
  rw [hs1] at ZR ⊢
  rw [hs0] at z0 BW hb ⊢
  have HS0:=Lib.hid hs0
  clear hs0
  have H0 : _ = some (Value.int .i64 k):=z0.cell 0
  go_wp2_with fail
  clear H0
  refine LexG.region_plan (LexG.grown_ok s0) 7 [0,1,2,3,4,6,7,5,8,9,10,11,12,13] (h:=?_)
  dsimp only [LexG.pick,LexG.nth]
  have bd : Below w1.heap.size w1 w1.drew:=(Below.refl _ _).drew
  replace ia:=ia.on bd
  replace ib:=ib.on bd
  replace z0:=z0.below bd z0.lt
  replace ZR:=ZR.below bd ZR.lt
  replace BW:=BW.trans (bd.mono (Nat.le_trans (Nat.le_of_eq HS0.out.symm) BW.size))
  obtain ⟨w2,e_w⟩ : ∃ w',w1.drew = w':=⟨_,rfl⟩
  rw [e_w] at ia ib z0 ZR BW ⊢
  clear e_w bd
  have ma : _ = some (Value.int .i64 (a : Int)):=z0.cell 1
  have lga:=zhC ma
  have H3:=zhC ia.2
  have mb : _ = some (Value.int .i64 (b : Int)):=z0.cell 2
  have lgb:=zhC mb
  have H2:=zhC ib.2
  refine LexG.lex_here 7 7 (Nat.le_refl _) (by kernel_rfl) ?_
  dsimp only [List.take,List.drop]
  repeat go_big_quiet_step (fail)
  refine wpQuiet_nil ?_
  clear lga H3 ma lgb H2 mb
  have H1 : b0 ≠ s0:=by have:=hb.out; omega
  have H3:=zfC ia.2 ia.1 (fun e => H1 (by injection e))
  have H2:=zfC ib.2 ib.1 (fun e => H1 (by injection e))
  refine LexG.lex_plain 4 (by kernel_rfl) ?_
  dsimp only [List.take,List.drop]
  repeat go_big_quiet_step (fail)
  refine wpQuiet_nil ?_
  clear H3 H2
  refine LexG.lex_call (h:=fun K hK => ?_)
  have m1 : _ = some (Value.int .i64 (a : Int)):=z0.cell 1
  have f1:=z0.free 1
  go_simp
  refine hK _ _ (zai _ _ _) ?_
  clear hK K m1 f1
  replace z0:=z0.put 1 (.int .i64 za)
  replace ZR:=ZR.apart hne.symm 1 (.int .i64 za)
  replace BW:=BW.setCell (p:=⟨s0,1,none⟩) (Nat.le_refl _) (.int .i64 za)
  obtain ⟨w3,e_w⟩ : ∃ w',w2.setCell ⟨s0,1,none⟩ (.int .i64 za) = w':=⟨_,rfl⟩
  rw [e_w] at z0 ZR BW ⊢
  clear e_w
  refine LexG.lex_plain 1 (by kernel_rfl) ?_
  dsimp only [List.take,List.drop]
  repeat go_big_quiet_step (fail)
  refine wpQuiet_nil ?_
  refine LexG.lex_call (h:=fun K hK => ?_)
  have m2 : _ = some (Value.int .i64 (b : Int)):=z0.cell 2
  have f2:=z0.free 2
  go_simp
  refine hK _ _ (zai _ _ _) ?_
  clear hK K m2 f2
  replace z0:=z0.put 2 (.int .i64 zb)
  replace ZR:=ZR.apart hne.symm 2 (.int .i64 zb)
  replace BW:=BW.setCell (p:=⟨s0,2,none⟩) (Nat.le_refl _) (.int .i64 zb)
  obtain ⟨w4,e_w⟩ : ∃ w',w3.setCell ⟨s0,2,none⟩ (.int .i64 zb) = w':=⟨_,rfl⟩
  rw [e_w] at z0 ZR BW ⊢
  clear e_w
  refine LexG.lex_nil ?_
  dsimp only [NoPanic]
  clear ia ib
  replace z0 : Own _ s0 43 [.int .i64 k,.int .i64 za,.int .i64 zb,.int .i64 c]:=z0
  have H0 : _ = some (Value.int .i64 k):=z0.cell 0
  obtain ⟨z0c1,z0c2,z0c3⟩:=z0.zoc1c2c3
  obtain ⟨zr0,zf0,zr1,zf1,zr2,zf2,zr3,zf3⟩:=ZR.zoc0f0c1f1c2f2c3f3
  go_wp2_with fail
  have VR:=ZR.p4' (.int .i64 k) (.int .i64 za) (.int .i64 zb) (.int .i64 c)
  obtain ⟨p0,p1,p2,p3⟩:=VR.zo4
  refine bodyPost_ret (v:=.agg #[.int .i64 k,.int .i64 za,.int .i64 zb,.int .i64 c]) (by simp [results,Try.results54,go_sem,p0,p1,p2,p3]) rfl ⟨rfl,by (try rw [HS0.out]); exact (BW.s4' hle)⟩
set_option maxHeartbeats 4000000 in
theorem moved_6 {w : World} {n b0 off cc : Nat} (a b c : Nat) (za zb zc : Int) (ha : a < n) (ia : IAt w b0 (off + a) za) (hb : b < n) (ib : IAt w b0 (off + b) zb) (hc : c < n) (ic : IAt w b0 (off + c) zc) : Calls Try.prog 54 #[.agg #[.int .i64 6,.int .i64 (a : Int),.int .i64 (b : Int),.int .i64 (c : Int)],.slice (some ⟨b0,off,none⟩) n cc] w fun e w' => e = .returned (.agg #[.int .i64 6,.int .i64 za,.int .i64 zb,.int .i64 zc]) ∧ Below w.heap.size w w':=by
 have ha1 : (a : Int) < (n : Int):=by omega
 have ha0 : (0 : Int) ≤ (a : Int):=by omega
 clear ha
 have hb1 : (b : Int) < (n : Int):=by omega
 have hb0 : (0 : Int) ≤ (b : Int):=by omega
 clear hb
 have hc1 : (c : Int) < (n : Int):=by omega
 have hc0 : (0 : Int) ≤ (c : Int):=by omega
 clear hc
 go_enter Try.func54,Try.ntmps54
 go_upto_region 1 with fail
 obtain ⟨w1,e1,z0,ZR,BW⟩:=zmE w [.int .i64 6,.int .i64 (a : Int),.int .i64 (b : Int),.int .i64 (c : Int)] 43 [.int .i64 0,.int .i64 0,.int .i64 0,.int .i64 0] 43
 have hb:=Lib.hid ia.1
 replace ia:=ia.on BW
 replace ib:=ib.on BW
 replace ic:=ic.on BW
 obtain ⟨s1,hs1⟩ : ∃ s1,w.heap.size + 1 = s1:=⟨_,rfl⟩
 obtain ⟨s0,hs0⟩ : ∃ s0,w.heap.size = s0:=⟨_,rfl⟩
 have hle : s0 ≤ s1:=by omega
 have H5 : s0 ≠ s1:=by omega
 rw [e1]
 clear e1
 rw [hs1] at ZR ⊢
 rw [hs0] at z0 BW hb ⊢
 have HS0:=Lib.hid hs0
 clear hs0
 have H1 : _ = some (Value.int .i64 6):=z0.cell 0
 go_wp2_with fail
 clear H1
 refine LexG.region_plan (LexG.grown_ok s0) 9 [0,1,2,3,4,6,7,11,12,5,8,9,10,13,14,15,16,17,18,19,20] (h:=?_)
 dsimp only [LexG.pick,LexG.nth]
 have bd : Below w1.heap.size w1 w1.drew:=(Below.refl _ _).drew
 replace ia:=ia.on bd
 replace ib:=ib.on bd
 replace ic:=ic.on bd
 replace z0:=z0.below bd z0.lt
 replace ZR:=ZR.below bd ZR.lt
 replace BW:=BW.trans (bd.mono (Nat.le_trans (Nat.le_of_eq HS0.out.symm) BW.size))
 obtain ⟨w2,e_w⟩ : ∃ w',w1.drew = w':=⟨_,rfl⟩
 rw [e_w] at ia ib ic z0 ZR BW ⊢
 clear e_w bd
 have ma : _ = some (Value.int .i64 (a : Int)):=z0.cell 1
 have lga:=zhC ma
 have H4:=zhC ia.2
 have mb : _ = some (Value.int .i64 (b : Int)):=z0.cell 2
 have lgb:=zhC mb
 have H3:=zhC ib.2
 have mc : _ = some (Value.int .i64 (c : Int)):=z0.cell 3
 have lgc:=zhC mc
 have H2:=zhC ic.2
 refine LexG.lex_here 9 9 (Nat.le_refl _) (by kernel_rfl) ?_
 dsimp only [List.take,List.drop]
 repeat go_big_quiet_step (fail)
 refine wpQuiet_nil ?_
 clear lga H4 ma lgb H3 mb lgc H2 mc
 have H0 : b0 ≠ s0:=by have:=hb.out; omega
 have H4:=zfC ia.2 ia.1 (fun e => H0 (by injection e))
 have H3:=zfC ib.2 ib.1 (fun e => H0 (by injection e))
 have H2:=zfC ic.2 ic.1 (fun e => H0 (by injection e))
 refine LexG.lex_plain 7 (by kernel_rfl) ?_
 dsimp only [List.take,List.drop]
 repeat go_big_quiet_step (fail)
 refine wpQuiet_nil ?_
 clear H4 H3 H2
 refine LexG.lex_call (h:=fun K hK => ?_)
 have m1 : _ = some (Value.int .i64 (a : Int)):=z0.cell 1
 have f1:=z0.free 1
 go_simp
 refine hK _ _ (zai _ _ _) ?_
 clear hK K m1 f1
 replace z0:=z0.put 1 (.int .i64 za)
 replace ZR:=ZR.apart H5.symm 1 (.int .i64 za)
 replace BW:=BW.setCell (p:=⟨s0,1,none⟩) (Nat.le_refl _) (.int .i64 za)
 obtain ⟨w3,e_w⟩ : ∃ w',w2.setCell ⟨s0,1,none⟩ (.int .i64 za) = w':=⟨_,rfl⟩
 rw [e_w] at z0 ZR BW ⊢
 clear e_w
 refine LexG.lex_plain 1 (by kernel_rfl) ?_
 dsimp only [List.take,List.drop]
 repeat go_big_quiet_step (fail)
 refine wpQuiet_nil ?_
 refine LexG.lex_call (h:=fun K hK => ?_)
 have m2 : _ = some (Value.int .i64 (b : Int)):=z0.cell 2
 have f2:=z0.free 2
 go_simp
 refine hK _ _ (zai _ _ _) ?_
 clear hK K m2 f2
 replace z0:=z0.put 2 (.int .i64 zb)
 replace ZR:=ZR.apart H5.symm 2 (.int .i64 zb)
 replace BW:=BW.setCell (p:=⟨s0,2,none⟩) (Nat.le_refl _) (.int .i64 zb)
 obtain ⟨w4,e_w⟩ : ∃ w',w3.setCell ⟨s0,2,none⟩ (.int .i64 zb) = w':=⟨_,rfl⟩
 rw [e_w] at z0 ZR BW ⊢
 clear e_w
 refine LexG.lex_plain 1 (by kernel_rfl) ?_
 dsimp only [List.take,List.drop]
 repeat go_big_quiet_step (fail)
 refine wpQuiet_nil ?_
 refine LexG.lex_call (h:=fun K hK => ?_)
 have m3 : _ = some (Value.int .i64 (c : Int)):=z0.cell 3
 have f3:=z0.free 3
 go_simp
 refine hK _ _ (zai _ _ _) ?_
 clear hK K m3 f3
 replace z0:=z0.put 3 (.int .i64 zc)
 replace ZR:=ZR.apart H5.symm 3 (.int .i64 zc)
 replace BW:=BW.setCell (p:=⟨s0,3,none⟩) (Nat.le_refl _) (.int .i64 zc)
 obtain ⟨w5,e_w⟩ : ∃ w',w4.setCell ⟨s0,3,none⟩ (.int .i64 zc) = w':=⟨_,rfl⟩
 rw [e_w] at z0 ZR BW ⊢
 clear e_w
 refine LexG.lex_nil ?_
 dsimp only [NoPanic]
 clear ia ib ic
 replace z0 : Own _ s0 43 [.int .i64 6,.int .i64 za,.int .i64 zb,.int .i64 zc]:=z0
 have H1 : _ = some (Value.int .i64 6):=z0.cell 0
 obtain ⟨z0c1,z0c2,z0c3⟩:=z0.zoc1c2c3
 obtain ⟨zr0,zf0,zr1,zf1,zr2,zf2,zr3,zf3⟩:=ZR.zoc0f0c1f1c2f2c3f3
 go_wp2_with fail
 have VR:=ZR.p4' (.int .i64 6) (.int .i64 za) (.int .i64 zb) (.int .i64 zc)
 obtain ⟨p0,p1,p2,p3⟩:=VR.zo4
 refine bodyPost_ret (v:=.agg #[.int .i64 6,.int .i64 za,.int .i64 zb,.int .i64 zc]) (by simp [results,Try.results54,go_sem,p0,p1,p2,p3]) rfl ⟨rfl,by (try rw [HS0.out]); exact (BW.s4' hle)⟩
set_option maxHeartbeats 4000000 in
theorem moved_n {w : World} {v2 : Value} (a b c : Int) (k : Int) (c2 : (k == 2) = false) (c7 : (k == 7) = false) (c3 : (k == 3) = false) (c4 : (k == 4) = false) (c5 : (k == 5) = false) (c6 : (k == 6) = false) : Calls Try.prog 54 #[.agg #[.int .i64 k,.int .i64 a,.int .i64 b,.int .i64 c],v2] w fun e w' => e = .returned (.agg #[.int .i64 k,.int .i64 a,.int .i64 b,.int .i64 c]) ∧ Below w.heap.size w w':=by
 go_enter Try.func54,Try.ntmps54
 go_upto_region 1 with fail
 obtain ⟨w1,e1,z0,ZR,BW⟩:=zmE w [.int .i64 k,.int .i64 a,.int .i64 b,.int .i64 c] 43 [.int .i64 0,.int .i64 0,.int .i64 0,.int .i64 0] 43
 obtain ⟨s1,hs1⟩ : ∃ s1,w.heap.size + 1 = s1:=⟨_,rfl⟩
 obtain ⟨s0,hs0⟩ : ∃ s0,w.heap.size = s0:=⟨_,rfl⟩
 have hle : s0 ≤ s1:=by omega
 have hne : s0 ≠ s1:=by omega
 rw [e1]
 clear e1
 rw [hs1] at ZR ⊢
 rw [hs0] at z0 BW  ⊢
 have HS0:=Lib.hid hs0
 clear hs0
 have z0c0 : _ = some (Value.int .i64 k):=z0.cell 0
 obtain ⟨z0c1,z0c2,z0c3⟩:=z0.zoc1c2c3
 obtain ⟨zr0,zf0,zr1,zf1,zr2,zf2,zr3,zf3⟩:=ZR.zoc0f0c1f1c2f2c3f3
 go_wp2_with fail
 have VR:=ZR.p4' (.int .i64 k) (.int .i64 a) (.int .i64 b) (.int .i64 c)
 obtain ⟨p0,p1,p2,p3⟩:=VR.zo4
 refine bodyPost_ret (v:=.agg #[.int .i64 k,.int .i64 a,.int .i64 b,.int .i64 c]) (by simp [results,Try.results54,go_sem,p0,p1,p2,p3]) rfl ⟨rfl,by (try rw [HS0.out]); exact (BW.s4' hle)⟩
end Go.Proofs.Ytcehklnonhalhaa
