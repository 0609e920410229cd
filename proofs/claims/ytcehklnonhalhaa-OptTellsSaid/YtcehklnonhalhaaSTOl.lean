/-
  What the proofs of OptTells need: Ol Vh.
-/
import Derived.Test.YtcehklnonhalhaaSTOk
import Derived.Test.YtcehklnonhalhaaSTVa
set_option linter.unusedVariables false
namespace Go.Proofs.Ytcehklnonhalhaa
theorem FI.wk {N : List Nd} {pos : Nat → Nat} {i : Nat} {M : List Nd} {S : List Int} (h : FI N pos i M S) {y : Int} (hy : Pr N.length pos i y) : Wk12 M y:=by
 obtain ⟨m,rfl,hm,hpm⟩:=hy.nat
 have e : nA M (m : Int) = M.getD m nd0:=by unfold nA; rw [Int.toNat_natCast]
 by_cases hio : isIO (N.getD m nd0)
 ·have e1:=(h.io m hm hpm hio).1
  unfold isIO at hio
  refine ⟨fun k => ?_,fun k => ?_,by omega⟩
  all_goals
   rw [e,e1] at k
   omega
 have ho:=h.ok m hm hpm hio
 obtain ⟨x,hx⟩ : ∃ x,M.getD m nd0 = x:=⟨_,rfl⟩
 rw [hx] at ho e
 obtain ⟨k,a,b,c⟩:=x
 refine ⟨fun k0 => ?_,fun k2 => ?_,by omega⟩
 ·rw [e] at k0 ⊢
  have k0 : k = 0:=k0
  rcases ho.kd with ⟨_,h1,h2,h3⟩ | ⟨h1,_⟩ | ⟨h1,_⟩ | ⟨h1,_⟩
  ·have h2 : b = 0:=h2
   have h3 : c = 0:=h3
   rcases h1 with h1 | h1
   ·have h1 : a = 0:=h1
    exact .inl (by rw [k0,h1,h2,h3]; rfl)
   have h1 : a = 1:=h1
   exact .inr (by rw [k0,h1,h2,h3]; rfl)
  all_goals
   have h1' : (⟨k,a,b,c⟩ : Nd).k = 0:=k0
   omega
 rw [e] at k2 ⊢
 have k2 : k = 2:=k2
 have k2' : (⟨k,a,b,c⟩ : Nd).k = 2:=k2
 rcases ho.kd with ⟨h1,_⟩ | ⟨_,h1,h2,h3⟩ | ⟨h1,_⟩ | ⟨h1,_⟩
 ·omega
 ·have h2 : b = 0:=h2
  have h3 : c = 0:=h3
  exact ⟨by rw [k2,h2,h3]; rfl,h1.1⟩
 ·omega
 omega
def rS (L : List Nat) (n j : Nat) (S : List Int) : List Int:=(List.range n).map fun q => if L.idxOf q < j then S.getD q 0 else (q : Int)
theorem zdf (L : List Nat) (n j : Nat) (S : List Int) : (rS L n j S).length = n:=by unfold rS; simp
theorem rS_at {L : List Nat} {n j : Nat} {S : List Int} {q : Nat} (hq : q < n) : (rS L n j S).getD q 0 = if L.idxOf q < j then S.getD q 0 else (q : Int):=by
 unfold rS
 rw [List.getD_eq_getElem?_getD,List.getElem?_map,List.getElem?_range hq]
 rfl
theorem zej {A B : List Int} (hl : A.length = B.length) (h : ∀ q,q < A.length → A.getD q 0 = B.getD q 0) : A = B:=by
 refine List.ext_getElem hl fun q h1 h2 => ?_
 have:=h q h1
 rwa [List.getD_eq_getElem?_getD,List.getD_eq_getElem?_getD,List.getElem?_eq_getElem h1,List.getElem?_eq_getElem h2] at this
theorem rS_zero (L : List Nat) (n : Nat) (S : List Int) : rS L n 0 S = (List.range n).map (fun q : Nat => (q : Int)):=by
 unfold rS
 refine List.map_congr_left fun q _ => ?_
 rw [if_neg (by omega)]
theorem rS_all {L : List Nat} {n : Nat} {S : List Int} (hl : S.length = n) (hm : ∀ q,q < n → q ∈ L) : rS L n L.length S = S:=by
 refine zej (by rw [zdf,hl]) fun q hq => ?_
 rw [zdf] at hq
 rw [rS_at hq,if_pos (List.idxOf_lt_length_of_mem (hm q hq))]
theorem zdE {L : List Nat} (hn : L.Nodup) {j q : Nat} (h : L[j]? = some q) : L.idxOf q = j:=by
 obtain ⟨hj,rfl⟩:=List.getElem?_eq_some_iff.1 h
 exact hn.idxOf_getElem j hj
theorem zea {L : List Nat} {n j q : Nat} {S : List Int} (hn : L.Nodup) (h : L[j]? = some q) (hq : q < n) (hl : S.length = n) (s : Int) : rS L n (j + 1) (S.set q s) = (rS L n j S).set q s:=by
 have e:=zdE hn h
 refine zej (by rw [List.length_set,zdf,zdf]) fun p hp => ?_
 rw [zdf] at hp
 rw [rS_at hp,zaT S q s 0 p (by rw [hl]; exact hq),zaT (rS L n j S) q s 0 p (by rw [zdf]; exact hq),rS_at hp]
 by_cases ep : p = q
 ·subst ep
  rw [if_pos (by omega),if_pos rfl,if_pos rfl]
 rw [if_neg ep,if_neg ep]
 by_cases h1 : L.idxOf p < j
 ·rw [if_pos (by omega),if_pos h1]
 rw [if_neg h1,if_neg]
 intro h2
 have h3 : L.idxOf p = j:=by omega
 have hjl : j < L.length:=(List.getElem?_eq_some_iff.1 h).1
 have h4 : L[j]? = some p:=by
  have hm : p ∈ L:=List.idxOf_lt_length_iff.1 (by omega)
  rw [← h3]
  exact zdH hm
 rw [h] at h4
 exact ep (by injection h4 with h4; exact h4.symm)
theorem rS_self {L : List Nat} {n j q : Nat} {S : List Int} (hn : L.Nodup) (h : L[j]? = some q) (hq : q < n) : (rS L n j S).getD q 0 = (q : Int):=by
 rw [rS_at hq,if_neg (by rw [zdE hn h]; omega)]
theorem ze4 {L : List Nat} {n j q : Nat} {S : List Int} (hn : L.Nodup) (h : L[j]? = some q) (hq : q < n) : (rS L n j S).set q (q : Int) = rS L n j S:=by
 refine zej (by rw [List.length_set]) fun p hp => ?_
 rw [List.length_set,zdf] at hp
 rw [zaT (rS L n j S) q (q : Int) 0 p (by rw [zdf]; exact hq)]
 split
 ·rename_i e
  rw [e,rS_self hn h hq]
 rfl
theorem rS_sA {L : List Nat} {n j : Nat} {S : List Int} {y : Int} (hy : Pr n (fun q => L.idxOf q) j y) : sA (rS L n j S) y = sA S y:=by
 obtain ⟨m,rfl,hm,hpm⟩:=hy.nat
 unfold sA
 rw [Int.toNat_natCast,rS_at hm,if_pos hpm]
def rY (R : List Int) (x : Nd) : Nd:=⟨x.k,sA R x.a,if 3 ≤ x.k then sA R x.b else 0,if x.k = 6 then sA R x.c else 0⟩
theorem rY_uses {P : Int → Prop} {S R : List Int} {x : Nd} (hx : Ok P x) (h0 : x.k ≠ 0) (hR : ∀ y,P y → sA R y = sA S y) : rY R x = zaG S x:=by
 unfold rY zaG
 rcases hx.kd with ⟨e,_⟩ | ⟨e,a,b,c⟩ | ⟨e,a,b,c⟩ | ⟨e,a,b,c⟩
 ·exact absurd e h0
 ·have n3 : ¬ 3 ≤ x.k:=by omega
  have n6 : ¬ x.k = 6:=by omega
  rw [if_neg n3,if_neg n6,if_pos e,hR _ a,b,c]
 ·have p3 : 3 ≤ x.k:=by omega
  have n6 : ¬ x.k = 6:=by omega
  have n2 : ¬ x.k = 2:=by omega
  rw [if_pos p3,if_neg n6,if_neg n2,if_pos e,hR _ a,hR _ b,c]
 have p3 : 3 ≤ x.k:=by omega
 have n2 : ¬ x.k = 2:=by omega
 have n5 : ¬ (x.k = 3 ∨ x.k = 4 ∨ x.k = 5):=by omega
 rw [if_pos p3,if_pos e,if_neg n2,if_neg n5,if_pos e,hR _ a,hR _ b,hR _ c]
theorem FI.gate {N : List Nd} {pos : Nat → Nat} {i : Nat} {M : List Nd} {S : List Int} (hp : Pos N pos) (h : FI N pos i M S) {q : Nat} (hq : q < N.length) (hi : pos q = i) (hio : ¬ isIO (N.getD q nd0)) : M.getD q nd0 = N.getD q nd0 ∧ Ok (Pr N.length pos i) (N.getD q nd0) ∧ Ok (Pr N.length pos i) (zaG S (N.getD q nd0)):=by
 have H0:=hp.at hq hio
 rw [hi] at H0
 refine ⟨h.old q hq (by omega),H0,zda H0 fun y hy => ?_⟩
 obtain ⟨m,rfl,hm,hpm⟩:=(H0.uses y hy).nat
 obtain ⟨g1,g2⟩:=h.st m hm (by omega)
 unfold sA
 rw [Int.toNat_natCast]
 exact g1.le (by omega)
open Go.RowKit
set_option maxRecDepth 4000
set_option maxHeartbeats 2000000 in
theorem rkey_n (k a b c : Int) (e3 : (k == 3) = false) (e4 : (k == 4) = false) (e5 : (k == 5) = false) (w : World) : Calls Try.prog 24 #[.agg #[.int .i64 k,.int .i64 a,.int .i64 b,.int .i64 c]] w fun e w' => e = .returned (.agg #[.int .i64 k,.int .i64 a,.int .i64 b,.int .i64 c]) ∧ Below w.heap.size w w':=by
 go_enter Try.func24,Try.ntmps24
 go_upto_region 1 with fail
 obtain ⟨w1,e1,z0,ZR,BW⟩:=zmE w [.int .i64 k,.int .i64 a,.int .i64 b,.int .i64 c] 43 [.int .i64 0,.int .i64 0,.int .i64 0,.int .i64 0] 43
 obtain ⟨s1,hs1⟩ : ∃ s1,w.heap.size + 1 = s1:=⟨_,rfl⟩
 obtain ⟨s0,hs0⟩ : ∃ s0,w.heap.size = s0:=⟨_,rfl⟩
 have hle : s0 ≤ s1:=by omega
 have hne : s0 ≠ s1:=by omega
 rw [e1]
 clear e1
 rw [hs1] at ZR ⊢
 rw [hs0] at z0 BW ⊢
 obtain ⟨c0,c1,c2,c3⟩:=z0.zo4
 obtain ⟨zr0,zf0,zr1,zf1,zr2,zf2,zr3,zf3⟩:=ZR.zoc0f0c1f1c2f2c3f3
 go_wp2_with fail
 have VR:=ZR.p4' (.int .i64 k) (.int .i64 a) (.int .i64 b) (.int .i64 c)
 obtain ⟨p0,p1,p2,p3⟩:=VR.zo4
 refine bodyPost_ret (v:=.agg #[.int .i64 k,.int .i64 a,.int .i64 b,.int .i64 c]) (by simp [results,Try.results24,go_sem,p0,p1,p2,p3]) rfl ⟨rfl,by (try rw [hs0]); exact (BW.s4' hle)⟩
set_option maxHeartbeats 2000000 in
theorem rkey_b (k a b c : Int) (hk : (k == 3) = true ∨ ((k == 3) = false ∧ (k == 4) = true) ∨ ((k == 3) = false ∧ (k == 4) = false ∧ (k == 5) = true)) (hl : ¬ b < a) (hd : decide (b < a) = false) (w : World) : Calls Try.prog 24 #[.agg #[.int .i64 k,.int .i64 a,.int .i64 b,.int .i64 c]] w fun e w' => e = .returned (.agg #[.int .i64 k,.int .i64 a,.int .i64 b,.int .i64 c]) ∧ Below w.heap.size w w':=by
 rcases hk with e3 | ⟨e3,e4⟩ | ⟨e3,e4,e5⟩
 all_goals
  go_enter Try.func24,Try.ntmps24
  go_upto_region 1 with fail
  obtain ⟨w1,e1,z0,ZR,BW⟩:=zmE w [.int .i64 k,.int .i64 a,.int .i64 b,.int .i64 c] 43 [.int .i64 0,.int .i64 0,.int .i64 0,.int .i64 0] 43
  obtain ⟨s1,hs1⟩ : ∃ s1,w.heap.size + 1 = s1:=⟨_,rfl⟩
  obtain ⟨s0,hs0⟩ : ∃ s0,w.heap.size = s0:=⟨_,rfl⟩
  have hle : s0 ≤ s1:=by omega
  have hne : s0 ≠ s1:=by omega
  rw [e1]
  clear e1
  rw [hs1] at ZR ⊢
  rw [hs0] at z0 BW ⊢
  obtain ⟨c0,c1,c2,c3⟩:=z0.zo4
  obtain ⟨zr0,zf0,zr1,zf1,zr2,zf2,zr3,zf3⟩:=ZR.zoc0f0c1f1c2f2c3f3
  go_wp2_with fail
  have VR:=ZR.p4' (.int .i64 k) (.int .i64 a) (.int .i64 b) (.int .i64 c)
  obtain ⟨p0,p1,p2,p3⟩:=VR.zo4
  refine bodyPost_ret (v:=.agg #[.int .i64 k,.int .i64 a,.int .i64 b,.int .i64 c]) (by simp [results,Try.results24,go_sem,p0,p1,p2,p3]) rfl ⟨rfl,by (try rw [hs0]); exact (BW.s4' hle)⟩
theorem rkey_as {x : Nd} (h : keyS x = x) (w : World) : Calls Try.prog 24 #[ndA x] w fun e w' => e = .returned (ndA x) ∧ Below w.heap.size w w':=by
 obtain ⟨k,a,b,c⟩:=x
 unfold keyS at h
 have lt : k = 3 ∨ k = 4 ∨ k = 5 → ¬ b < a ∧ decide (b < a) = false:=fun hk => by
  rw [if_pos hk] at h
  injection h with _ h _ _
  have h : min a b = a:=h
  have : ¬ b < a:=by omega
  exact ⟨this,by simpa using this⟩
 by_cases e3 : k = 3
 ·subst e3
  exact rkey_b 3 a b c (.inl rfl) (lt (.inl rfl)).1 (lt (.inl rfl)).2 w
 by_cases e4 : k = 4
 ·subst e4
  exact rkey_b 4 a b c (.inr (.inl ⟨rfl,rfl⟩)) (lt (.inr (.inl rfl))).1 (lt (.inr (.inl rfl))).2 w
 by_cases e5 : k = 5
 ·subst e5
  exact rkey_b 5 a b c (.inr (.inr ⟨rfl,rfl,rfl⟩)) (lt (.inr (.inr rfl))).1 (lt (.inr (.inr rfl))).2 w
 exact rkey_n k a b c (zae e3) (zae e4) (zae e5) w
end Go.Proofs.Ytcehklnonhalhaa
