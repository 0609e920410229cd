/-
  What the proofs of OptTells need: Gbf.
-/
import Derived.Test.YtcehklnonhalhaaSTGbe
import Derived.Test.YtcehklnonhalhaaSTGk
set_option linter.unusedVariables false
namespace Go.Proofs.Ytcehklnonhalhaa
open Go.RowKit
set_option maxRecDepth 4000
def atL (f : Nat → Nat) (v j : Nat) : List Nat:=(List.range j).filter fun i => decide (f i = v)
def nI (L : List Nat) : List Int:=L.map fun i : Nat => (i : Int)
theorem nI_snoc (L : List Nat) (i : Nat) : (nI (L ++ [i])).flatMap inC = (nI L).flatMap inC ++ [.int .i64 (i : Int)]:=by
 unfold nI
 rw [List.map_append,List.flatMap_append]
 rfl
theorem atL_hit {f : Nat → Nat} {v j : Nat} (h : f j = v) : atL f v (j + 1) = atL f v j ++ [j]:=by
 unfold atL
 rw [List.range_succ,List.filter_append]
 simp [h]
theorem atL_miss {f : Nat → Nat} {v j : Nat} (h : f j ≠ v) : atL f v (j + 1) = atL f v j:=by
 unfold atL
 rw [List.range_succ,List.filter_append]
 simp [h]
theorem atL_le (f : Nat → Nat) (v j : Nat) : (atL f v j).length ≤ j:=by
 have:=List.length_filter_le (fun i => decide (f i = v)) (List.range j)
 rwa [List.length_range] at this
theorem ordU_done {f : Nat → Nat} {n v : Nat} (hf : ∀ i < n,f i < n) (h : n ≤ (ordU f n v).length) : ordU f n v = ordU f n n:=by
 rw [zdj] at h
 have h1 : ∀ i < n,f i < v:=by
  have key : ∀ m,m ≤ Cn (fun i => decide (f i < v)) m → ∀ i < m,f i < v:=by
   intro m
   induction m with
   | zero => intro _ i hi; omega
   | succ m ih =>
    intro h i hi
    rw [zbz] at h
    have hle:=zdF (fun i => decide (f i < v)) m
    by_cases hm : f m < v
    ·simp only [hm,decide_true,if_true] at h
     by_cases e : i = m
     ·subst e; exact hm
     exact ih (by omega) i (by omega)
    simp only [hm,decide_false,Bool.false_eq_true,if_false] at h
    omega
  exact key n h
 have a:=ordU_eq f n h1 n
 have b:=ordU_eq f n hf v
 rw [← a,Nat.add_comm v n,b]
theorem ordU_top {f : Nat → Nat} {n v : Nat} (hf : ∀ i < n,f i < n) (h : (ordU f n v).length < n) : v < n:=by
 rcases Nat.lt_or_ge v n with h1 | h1
 ·exact h1
 exfalso
 rw [zdj] at h
 unfold Lt at h
 rw [Cn_all fun i hi => by have:=hf i hi; simp; omega] at h
 omega
theorem lev_facts {N : List Nd} {I O : List Pt} {d : Option (List Nat)} {e : Int} (hl : zaB N I O = (d,e)) : ∀ i < (d.getD []).length,(d.getD []).getD i 0 < (d.getD []).length:=by
 intro i hi
 cases d with
 | none => exact absurd hi (by simp)
 | some d =>
  have hd : levS N = some d:=by
   unfold zaB at hl
   split at hl
   ·injection hl with h2 h3
    cases h2
   split at hl
   ·rename_i dd hdd
    injection hl with h2 h3
    injection h2 with h2
    subst h2
    exact hdd
   injection hl with h2 h3
   cases h2
  obtain ⟨h1,h2⟩:=zcA hd
  simp only [Option.getD_some] at hi ⊢
  have:=all_lt h2 (show i < N.length by omega)
  omega
theorem ordO_is (d : Option (List Nat)) : ordO d = nI (ordU (fun i => (d.getD []).getD i 0) (d.getD []).length (d.getD []).length):=by
 cases d with
 | none => rfl
 | some d => rfl
def Row (w : World) (B : Nat) (v : Value) (L : List Nat) : Prop:=w.ownsRow B 3 1 v L.length ((nI L).flatMap inC)
set_option maxRecDepth 20000 in
set_option maxHeartbeats 8000000 in
theorem rorder_as {An Ai Ao : Option Addr} {nn cn ni ci no co : Nat} {N : List Nd} {I O : List Pt} {w : World} (h : Nt w An nn cn Ai ni ci Ao no co N I O) (hnm : ∀ p ∈ I ++ O,p.name.size ≤ 1000000) (hc : ∀ k : Nat,(zah (I.take k)).length ≤ 1000000) {d : Option (List Nat)} {e : Int} (hl : zaB N I O = (d,e)) (hd : (d.getD []).length ≤ 1000) :
  Calls Try.prog 89 #[.agg #[.slice An nn cn,.slice Ai ni ci,.slice Ao no co]] w (OrX w (ordO d) e):=by
 have HL:=Lib.hid hl
 have HNM:=Lib.hid hnm
 have HC:=Lib.hid hc
 obtain ⟨f,hf⟩ : ∃ f : Nat → Nat,(fun i => (d.getD []).getD i 0) = f:=⟨_,rfl⟩
 obtain ⟨n,hn⟩ : ∃ n,(d.getD []).length = n:=⟨_,rfl⟩
 have HF : Hid (∀ i < n,f i < n):=Lib.hid (by have:=lev_facts hl; rw [hn] at this; rw [← hf]; exact this)
 have HO : Hid (ordO d = nI (ordU f n n)):=Lib.hid (by rw [ordO_is,hf,hn])
 have HI : Hid (∀ k x,(ints d)[k]? = some x → x = (f k : Int)):=Lib.hid (by
  intro k x hx
  unfold ints at hx
  rw [List.getElem?_map] at hx
  rw [← hf]
  show x = (((d.getD []).getD k 0 : Nat) : Int)
  rw [List.getD_eq_getElem?_getD]
  cases hk : (d.getD [])[k]? with
  | none => rw [hk] at hx; cases hx
  | some y => rw [hk] at hx; injection hx with hx; exact hx.symm)
 have HDL : Hid ((ints d).length = n):=Lib.hid (by unfold ints; rw [List.length_map]; exact hn)
 rw [hn] at hd
 clear hl hnm hc hf hn
 go_enter Try.func89,Try.ntmps89
 go_wp2_with fail
 obtain ⟨w1,e_w1⟩ : ∃ w',w.alloc (.cells #[.slice An nn cn,.slice Ai ni ci,.slice Ao no co] 25) = w':=⟨_,rfl⟩
 have BW : Below w.heap.size w w1:=e_w1 ▸ zaa _ _
 rw [e_w1]
 clear e_w1
 replace h:=h.on BW
 refine (zcJ h HNM.out HC.out HL.out).mono ?_
 rintro en w2 ⟨A,m,c,rfl,hi,hmc,b⟩
 replace BW:=Below.step BW b
 clear b h
 obtain rfl : m = n:=by rw [← hi.1]; exact HDL.out
 go_wp2_with fail
 obtain ⟨w3,e_w3⟩ : ∃ w',w2.alloc (.cells #[] 3) = w':=⟨_,rfl⟩
 have b3 : Below w2.heap.size w2 w3:=e_w3 ▸ zaa _ _
 have hrow : w3.ownsRow w2.heap.size 3 1 (.slice (some ⟨w2.heap.size,0,none⟩) 0 0) 0 []:=e_w3 ▸ World.ownsRow_lit w2 #[] 0 (Nat.le_refl _) (by unfold maxLen; omega) rfl
 rw [e_w3]
 clear e_w3
 go_loopw [6,7] (fun o lev wr => ∃ v : Nat,v ≤ m ∧ lev = .int .i64 v ∧ Row wr w2.heap.size o (ordU f m v) ∧ Below w2.heap.size w2 wr) (fun _ lev _ => m - (intOf lev).toNat)
 case atStart => exact ⟨0,Nat.zero_le _,rfl,hrow,b3⟩
 clear hrow b3
 obtain ⟨v,hv,rfl,hrow,BR⟩:=hrel
 obtain ⟨Ao,co,rfl,swo,_,_⟩:=zaP hrow
 obtain ⟨k,hk⟩ : ∃ k,(ordU f m v).length = k:=⟨_,rfl⟩
 have HK:=Lib.hid hk
 by_cases hlt : k < m
 ·have hvm : v < m:=ordU_top HF.out (by rw [HK.out]; exact hlt)
  have hkn : (k : Int) < (m : Int):=by omega
  rw [hk] at hrow ⊢
  obtain ⟨wa,rfl⟩ : ∃ x,x = wr:=⟨_,rfl⟩
  go_wp2_with fail
  clear hkn hlt HK
  go_loopw [6,8] (fun o i wr => ∃ j : Nat,j ≤ m ∧ i = .int .i64 j ∧ Row wr w2.heap.size o (ordU f m v ++ atL f v j) ∧ Below w2.heap.size w2 wr) (fun _ i _ => m - (intOf i).toNat)
  case atStart => exact ⟨0,Nat.zero_le _,rfl,by have e : atL f v 0 = []:=rfl; rw [e,List.append_nil]; exact hrow,BR⟩
  clear hrow BR
  obtain ⟨j,hj,rfl,hrow,BR⟩:=hrel
  by_cases hjm : j < m
  ·obtain ⟨b0,off,x,eA,HX,cx⟩:=(hi.on BR).at hjm
   have hx : x = (f j : Int):=HI.out j x HX.out
   subst eA hx
   have hj0 : (0 : Int) ≤ (j : Int):=by omega
   have hj1 : (j : Int) < (m : Int):=by omega
   obtain ⟨fj,hfj⟩ : ∃ fj,f j = fj:=⟨_,rfl⟩
   have HFJ:=Lib.hid hfj
   rw [hfj] at cx HX
   clear hfj
   have H0 : (ordU f m v ++ atL f v j).length ≤ 3000:=by
    rw [List.length_append,hk]
    have:=atL_le f v j
    have h2 : k ≤ m:=by rw [← hk,zdj]; exact zdF _ _
    omega
   by_cases he : fj = v
   ·subst he
    have HT:=Lib.hid (atL_hit HFJ.out)
    obtain ⟨L,hL⟩ : ∃ L,ordU f m fj ++ atL f fj j = L:=⟨_,rfl⟩
    have HT2 : Hid (ordU f m fj ++ atL f fj (j + 1) = L ++ [j]):=Lib.hid (by rw [HT.out,← List.append_assoc,hL])
    rw [hL] at hrow H0
    clear hL HT
    obtain ⟨q,hq⟩ : ∃ q,L.length = q:=⟨_,rfl⟩
    unfold Row at hrow
    have HQ:=Lib.hid hq
    rw [hq] at hrow H0
    clear hq
    go_upto_region 10 with fail
    obtain ⟨w4,e_w4⟩ : ∃ w',wr.alloc (.cells #[.int .i64 (j : Int)] 3) = w':=⟨_,rfl⟩
    have b4 : Below wr.heap.size wr w4:=e_w4 ▸ zaa _ _
    have R4 : w4.ownsRow w2.heap.size 3 1 _ q _:=e_w4 ▸ hrow.alloc _
    have cn4 : ∀ ad : Addr,(some ⟨wr.heap.size,0,none⟩ : Option Addr) = some ad → ∀ (i : Nat) (u : Value),([.int .i64 (j : Int)] : List Value)[i]? = some u → w4.cell? (ad.add i) = some u:=by
     intro ad e i u hu
     cases e
     rw [zcn,← e_w4,Nat.zero_add,cell_of_row _ wr.heap.size i #[.int .i64 (j : Int)] 3 (0,0) (heap_alloc_new wr _)]
     simpa using hu
    have BR4:=Below.step BR b4
    have hbs : w2.heap.size ≤ w4.heap.size:=BR4.size
    clear cx hrow b4
    go_wp2_with (at_builtin; refine zax (A:=some ⟨wr.heap.size,0,none⟩) (m:=1) (c:=1) rfl _ _ 39 rfl zbI (by omega) (by omega) w2.heap.size _ _ _ rfl R4 [.int .i64 (j : Int)] rfl (fun e => by cases e) rfl cn4 (by intro u hu; simp at hu; subst hu; rfl) (by omega) hbs ?_; intro v5 w5 R5 G5; have B5:=za5 R4 BR4 (Nat.le_refl _) G5; obtain ⟨A5,c5,rfl,sw5,_⟩:=zaP R5)
    have R6 : Hid (Row w5 w2.heap.size (.slice A5 (q + 1) c5) (ordU f m fj ++ atL f fj (j + 1))):=Lib.hid (by
     rw [HT2.out]
     unfold Row
     rw [nI_snoc,List.length_append,HQ.out]
     exact R5)
    go_roundw
    case rel =>
     exact ⟨j + 1,by omega,by go_num,R6.out,B5⟩
    case measure => simp [intOf]; omega
   have he2 : (fj : Int) ≠ (v : Int):=by omega
   have HT:=Lib.hid (atL_miss (f:=f) (v:=v) (j:=j) (by rw [HFJ.out]; exact he))
   go_wp2_with fail
   go_roundw
   case rel => exact ⟨j + 1,by omega,by go_num,by rw [HT.out]; exact hrow,BR⟩
   case measure => simp [intOf]; omega
  obtain rfl : j = m:=by omega
  have hj1 : ¬ (j : Int) < (j : Int):=by omega
  have HR : Hid (Row wr w2.heap.size _ (ordU f j (v + 1))):=Lib.hid (by rw [zb8]; exact hrow)
  clear hrow
  go_wp2_with fail
  go_roundw
  case rel => exact ⟨v + 1,by omega,by go_num,HR.out,BR⟩
  case measure => simp [intOf]; omega
 have hkn : ¬ (k : Int) < (m : Int):=by omega
 have HR : Hid (ordU f m v = ordU f m m):=Lib.hid (ordU_done HF.out (by rw [HK.out]; omega))
 obtain ⟨Ao',co',e2,swo',_,ho⟩:=za4 hrow
 injection e2 with e2 e3 e4
 subst e2 e4
 have hko : k ≤ co:=by have:=swo.1; omega
 rw [hk] at ho hrow ⊢
 clear hk HK e3
 go_wp2_with fail
 refine bodyPost_ret (v:=.tuple #[.slice Ao k co,.int .i64 e]) (by simp [results,Try.results89,go_sem]) rfl ?_
 exact ⟨_,_,_,rfl,by rw [HO.out,← HR.out]; exact ho,hko,Below.step BW BR⟩
end Go.Proofs.Ytcehklnonhalhaa
