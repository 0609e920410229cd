/-
  What the proofs of OptTells need: Gk Gl Gm.
-/
import Derived.Test.YtcehklnonhalhaaSTGh
set_option linter.unusedVariables false
namespace Go.Proofs.Ytcehklnonhalhaa
open Go.RowKit
set_option maxRecDepth 4000
set_option maxHeartbeats 1000000 in
theorem levels_wrong {An Ai Ao : Option Addr} {nn cn ni ci no co : Nat} {N : List Nd} {I O : List Pt} {w : World} (h : Nt w An nn cn Ai ni ci Ao no co N I O) (v : Int) (hv : zaU N I O = v) (d0 : (v != 0) = true) :
  Calls Try.prog 42 #[.agg #[.slice An nn cn,.slice Ai ni ci,.slice Ao no co]]  w (LvX w none v):=by
 have HV:=Lib.hid hv
 clear hv
 go_enter Try.func42,Try.ntmps42
 go_upto_region 1 with fail
 obtain ⟨w1,e_w1,b,hs_w1,z0⟩:=zmD w [.slice An nn cn,.slice Ai ni ci,.slice Ao no co] 25
 rw [e_w1]
 clear e_w1
 have BW:=b
 clear b
 clear hs_w1
 have b0:=BW
 replace h:=h.on b0
 clear b0
 obtain ⟨z0c0,z0c1,z0c2⟩:=z0.zb3
 go_wp2_with fail
 refine (wrong_as h.n h.i h.o h.si h.so h.hn h.hs h.hb v HV.out).mono ?_
 rintro en w2 ⟨rfl,b⟩
 clear z0c0 z0c1 z0c2
 replace z0:=z0.on b
 replace h:=h.on b
 replace BW:=Below.step BW b
 clear b
 obtain ⟨z0c0,z0c1,z0c2⟩:=z0.zb3
 go_wp2_with fail
 refine bodyPost_ret (v:=.tuple #[.slice none 0 0,.int .i64 v]) (by simp [results,Try.results42,go_sem]) rfl ?_
 exact ⟨none,0,0,rfl,Is.nil_,Nat.le_refl _,BW⟩
set_option maxHeartbeats 1000000 in
theorem levels_ok {An Ai Ao : Option Addr} {nn cn ni ci no co : Nat} {N : List Nd} {I O : List Pt} {w : World} (h : Nt w An nn cn Ai ni ci Ao no co N I O) (v : Int) (hv : zaU N I O = v) (d0 : (v != 0) = false) (d : Option (List Nat)) (e : Int) (hl : (match levS N with | some d => (some d,(0 : Int)) | none => (none,9)) = (d,e)) (hf : N.all (zaf nn) = true) :
  Calls Try.prog 42 #[.agg #[.slice An nn cn,.slice Ai ni ci,.slice Ao no co]]  w (LvX w d e):=by
 have HV:=Lib.hid hv
 have HL:=Lib.hid hl
 have HF:=Lib.hid hf
 clear hv hl hf
 go_enter Try.func42,Try.ntmps42
 go_upto_region 1 with fail
 obtain ⟨w1,e_w1,b,hs_w1,z0⟩:=zmD w [.slice An nn cn,.slice Ai ni ci,.slice Ao no co] 25
 rw [e_w1]
 clear e_w1
 have BW:=b
 clear b
 clear hs_w1
 have b0:=BW
 replace h:=h.on b0
 clear b0
 obtain ⟨z0c0,z0c1,z0c2⟩:=z0.zb3
 go_wp2_with fail
 refine (wrong_as h.n h.i h.o h.si h.so h.hn h.hs h.hb v HV.out).mono ?_
 rintro en w2 ⟨rfl,b⟩
 clear z0c0 z0c1 z0c2
 replace z0:=z0.on b
 replace h:=h.on b
 replace BW:=Below.step BW b
 clear b
 obtain ⟨z0c0,z0c1,z0c2⟩:=z0.zb3
 go_wp2_with fail
 refine (climb_as h.n h.hn HF.out).mono ?_
 rintro en w9 (⟨l,dd,rfl,hd,hdl,hi,b⟩ | ⟨rfl,hd,b⟩)
 ·have HE : Hid (d = some dd ∧ e = 0):=Lib.hid (by have:=HL.out; rw [hd] at this; simp only [Prod.mk.injEq] at this; exact ⟨this.1.symm,this.2.symm⟩)
  obtain ⟨rfl,rfl⟩:=HE.out
  replace BW:=Below.step BW b
  go_wp2_with fail
  refine bodyPost_ret (v:=.tuple #[.slice (some ⟨l,0,none⟩) nn nn,.int .i64 0]) (by simp [results,Try.results42,go_sem]) rfl ?_
  exact ⟨_,_,_,rfl,hi,Nat.le_refl _,BW⟩
 have HE : Hid (d = none ∧ e = 9):=Lib.hid (by have:=HL.out; rw [hd] at this; simp only [Prod.mk.injEq] at this; exact ⟨this.1.symm,this.2.symm⟩)
 obtain ⟨rfl,rfl⟩:=HE.out
 replace BW:=Below.step BW b
 go_wp2_with fail
 refine bodyPost_ret (v:=.tuple #[.slice none 0 0,.int .i64 9]) (by simp [results,Try.results42,go_sem]) rfl ?_
 exact ⟨_,_,_,rfl,Is.nil_,Nat.le_refl _,BW⟩
theorem zek {An Ai Ao : Option Addr} {nn cn ni ci no co : Nat} {N : List Nd} {I O : List Pt} {w : World} (h : Nt w An nn cn Ai ni ci Ao no co N I O) {d : Option (List Nat)} {e : Int} (hl : zaB N I O = (d,e)) : Calls Try.prog 42 #[.agg #[.slice An nn cn,.slice Ai ni ci,.slice Ao no co]]  w (LvX w d e):=by
 unfold zaB at hl
 obtain ⟨v,hv⟩ : ∃ v,zaU N I O = v:=⟨_,rfl⟩
 rw [hv] at hl
 by_cases h0 : v = 0
 ·subst h0
  rw [if_neg (by simp)] at hl
  have hf:=wrong_form hv
  rw [h.n.1] at hf
  exact levels_ok h 0 hv rfl d e hl hf
 rw [if_pos h0] at hl
 simp only [Prod.mk.injEq] at hl
 obtain ⟨rfl,rfl⟩:=hl
 exact levels_wrong h v hv (by simpa using h0)
theorem n6ret_int {a b : Int} {k : IntKind} (h : a = b) : Ending.returned (.int k a) = Ending.returned (.int k b):=by rw [h]
def zdk (L : List Int) : Int:=L.foldl max 0
set_option maxHeartbeats 1000000 in
theorem greatest_as {A : Option Addr} {n c : Nat} {L : List Int} {w : World} (h : Is w A n L) (hn : n ≤ 1000000) (v : Int) (hv : zdk L = v) : Calls Try.prog 78 #[.slice A n c] w fun en w' => en = .returned (.int .i64 v) ∧ Below w.heap.size w w':=by
 have HV:=Lib.hid hv
 clear hv
 go_enter Try.func78,Try.ntmps78
 go_wp2_with fail
 go_loopw [3,8] (fun a i wr => ∃ j : Nat,j ≤ n ∧ i = .int .i64 j ∧ a = .int .i64 (zdk (L.take j)) ∧ Below w.heap.size w wr) (fun _ i _ => n - (intOf i).toNat)
 case atStart => exact ⟨0,Nat.zero_le _,rfl,rfl,Below.refl _ _⟩
 obtain ⟨j,hj,rfl,rfl,BW⟩:=hrel
 by_cases hlt : j < n
 ·obtain ⟨b2,off2,x,rfl,HX,cx⟩:=(h.on BW).at hlt
  have HM : Hid (zdk (L.take (j + 1)) = max (zdk (L.take j)) x):=Lib.hid (by unfold zdk; rw [List.take_add_one,HX.out,List.foldl_append]; rfl)
  go_wp2_with fail
  go_roundw
  case rel => exact ⟨j + 1,by omega,by go_num,by rw [HM.out]; congr 1; split <;> omega,BW⟩
  case measure => simp [intOf]; omega
 have e : L.take j = L:=List.take_of_length_le (by rw [h.1]; omega)
 rw [e]
 go_wp2_with fail
 go_ret
 exact ⟨n6ret_int HV.out,BW⟩
set_option maxHeartbeats 1000000 in
theorem zfh {An Ai Ao : Option Addr} {nn cn ni ci no co : Nat} {N : List Nd} {I O : List Pt} {w : World} (h : Nt w An nn cn Ai ni ci Ao no co N I O) {d : Option (List Nat)} {e : Int} (hl : zaB N I O = (d,e)) : Calls Try.prog 18 #[.agg #[.slice An nn cn,.slice Ai ni ci,.slice Ao no co]] w fun en w' => en = .returned (.int .i64 e) ∧ Below w.heap.size w w':=by
 have HL:=Lib.hid hl
 clear hl
 go_enter Try.func18,Try.ntmps18
 go_upto_region 1 with fail
 obtain ⟨w1,e_w1,b,hs_w1,z0⟩:=zmD w [.slice An nn cn,.slice Ai ni ci,.slice Ao no co] 25
 rw [e_w1]
 clear e_w1
 have BW:=b
 clear b
 clear hs_w1
 have b0:=BW
 replace h:=h.on b0
 clear b0
 obtain ⟨z0c0,z0c1,z0c2⟩:=z0.zb3
 go_wp2_with fail
 refine (zek h HL.out).mono ?_
 rintro en w9 ⟨A,m,cc,rfl,hi,hm,b⟩
 replace BW:=Below.step BW b
 go_wp2_with fail
 go_ret
 exact ⟨rfl,BW⟩
def Cn (p : Nat → Bool) (n : Nat) : Nat:=(List.range n).countP p
theorem zbz (p : Nat → Bool) (n : Nat) : Cn p (n + 1) = Cn p n + if p n then 1 else 0:=by
 unfold Cn
 rw [List.range_succ,List.countP_append]
 simp [List.countP_cons]
theorem Cn_none {p : Nat → Bool} {n : Nat} (h : ∀ i < n,p i = false) : Cn p n = 0:=by
 induction n with
 | zero => rfl
 | succ n ih => rw [zbz,ih fun i hi => h i (by omega),h n (by omega)]; rfl
theorem Cn_all {p : Nat → Bool} {n : Nat} (h : ∀ i < n,p i = true) : Cn p n = n:=by
 induction n with
 | zero => rfl
 | succ n ih => rw [zbz,ih fun i hi => h i (by omega),h n (by omega),if_pos rfl]
theorem Cn_le {p q : Nat → Bool} {n : Nat} (h : ∀ i < n,p i = true → q i = true) : Cn p n ≤ Cn q n:=by
 induction n with
 | zero => exact Nat.le_refl _
 | succ n ih =>
  rw [zbz,zbz]
  have h1:=ih fun i hi => h i (by omega)
  have h2:=h n (by omega)
  cases hp : p n <;> cases hq : q n <;> simp_all <;> omega
theorem zdF (p : Nat → Bool) (n : Nat) : Cn p n ≤ n:=by
 induction n with
 | zero => exact Nat.le_refl _
 | succ n ih => rw [zbz]; split <;> omega
theorem Cn_mono (p : Nat → Bool) {a b : Nat} (h : a ≤ b) : Cn p a ≤ Cn p b:=by
  induction b with
  | zero => have : a = 0:=by omega
            subst this; exact Nat.le_refl _
  | succ b ih =>
    rw [zbz]
    by_cases e : a = b + 1
    · subst e; rw [zbz]; exact Nat.le_refl _
    have:=ih (by omega); omega
theorem Cn_lt (p : Nat → Bool) {i j : Nat} (h : i < j) (hp : p i = true) : Cn p i < Cn p j:=by
 have h1:=zbz p i
 rw [hp,if_pos rfl] at h1
 have:=Cn_mono p (show i + 1 ≤ j by omega)
 omega
section
variable (f : Nat → Nat) (n : Nat)
def Lt (v : Nat) : Nat:=Cn (fun i => decide (f i < v)) n
def Eqs (v j : Nat) : Nat:=Cn (fun i => decide (f i = v)) j
theorem zfk (v : Nat) : Lt f n (v + 1) = Lt f n v + Eqs f v n:=by
 unfold Lt Eqs
 induction n with
 | zero => rfl
 | succ n ih =>
  rw [zbz,zbz,zbz,ih]
  by_cases h1 : f n < v
  ·rw [if_pos (by simp; omega),if_pos (by simpa using h1),if_neg (by simp; omega)]; omega
  by_cases h2 : f n = v
  ·rw [if_pos (by simp; omega),if_neg (by simpa using h1),if_pos (by simpa using h2)]; omega
  rw [if_neg (by simp; omega),if_neg (by simpa using h1),if_neg (by simpa using h2)]; omega
theorem Lt_mono {v v' : Nat} (h : v ≤ v') : Lt f n v ≤ Lt f n v':=Cn_le fun i _ hi => by simp at hi ⊢; omega
def posS (i : Nat) : Nat:=Lt f n (f i) + Eqs f (f i) i
theorem pos_lt {i : Nat} (hi : i < n) : posS f n i < n:=by
 have h1 : Eqs f (f i) i < Eqs f (f i) n:=Cn_lt _ hi (by simp)
 have h2:=zfk f n (f i)
 have h3 : Lt f n (f i + 1) ≤ n:=zdF _ _
 unfold posS
 omega
theorem pos_lt_of {i j : Nat} (hi : i < n) (h : f i < f j) : posS f n i < posS f n j:=by
 have h1 : Eqs f (f i) i < Eqs f (f i) n:=Cn_lt _ hi (by simp)
 have h2:=zfk f n (f i)
 have h3:=Lt_mono f n (show f i + 1 ≤ f j by omega)
 unfold posS
 omega
theorem pos_lt_eq {i j : Nat} (hij : i < j) (h : f i = f j) : posS f n i < posS f n j:=by
 have h1 : Eqs f (f i) i < Eqs f (f i) j:=Cn_lt _ hij (by simp)
 unfold posS
 rw [← h]
 omega
theorem pos_ne {i j : Nat} (hi : i < n) (hj : j < n) (hne : i ≠ j) : posS f n i ≠ posS f n j:=by
 rcases Nat.lt_trichotomy (f i) (f j) with h | h | h
 ·exact Nat.ne_of_lt (pos_lt_of f n hi h)
 ·rcases Nat.lt_or_gt_of_ne hne with g | g
  ·exact Nat.ne_of_lt (pos_lt_eq f n g h)
  exact Nat.ne_of_gt (pos_lt_eq f n g h.symm)
 exact Nat.ne_of_gt (pos_lt_of f n hj h)
def ordU (v : Nat) : List Nat:=(List.range v).flatMap fun d => (List.range n).filter fun i => decide (f i = d)
theorem zb8 (v : Nat) : ordU f n (v + 1) = ordU f n v ++ (List.range n).filter fun i => decide (f i = v):=by
 unfold ordU
 rw [List.range_succ,List.flatMap_append]
 simp
theorem zdj (v : Nat) : (ordU f n v).length = Lt f n v:=by
 induction v with
 | zero => exact (Cn_none fun i _ => by simp).symm
 | succ v ih =>
  rw [zb8,List.length_append,ih,zfk]
  congr 1
  unfold Eqs Cn
  rw [List.countP_eq_length_filter]
theorem zdQ {v i : Nat} : i ∈ ordU f n v ↔ i < n ∧ f i < v:=by
 unfold ordU
 rw [List.mem_flatMap]
 simp only [List.mem_range,List.mem_filter,decide_eq_true_eq]
 constructor
 ·rintro ⟨d,h1,h2,h3⟩; exact ⟨h2,by omega⟩
 rintro ⟨h1,h2⟩; exact ⟨f i,h2,h1,rfl⟩
theorem zeK (v : Nat) : (ordU f n v).Nodup:=by
 induction v with
 | zero => exact List.nodup_nil
 | succ v ih =>
  rw [zb8]
  refine List.nodup_append.2 ⟨ih,List.nodup_range.filter _,fun a ha b hb e => ?_⟩
  subst e
  have h1:=(zdQ f n).1 ha
  have h2:=(List.mem_filter.1 hb).2
  simp at h2
  omega
theorem ordU_eq {v : Nat} (h : ∀ i < n,f i < v) (u : Nat) : ordU f n (v + u) = ordU f n v:=by
 induction u with
 | zero => rfl
 | succ u ih =>
  rw [← Nat.add_assoc,zb8,ih]
  have : (List.range n).filter (fun i => decide (f i = v + u)) = []:=by
   rw [List.filter_eq_nil_iff]
   intro i hi
   have:=h i (List.mem_range.1 hi)
   simp; omega
  rw [this,List.append_nil]
theorem filter_at {p : Nat → Bool} {i : Nat} (hi : i < n) (hp : p i = true) : ((List.range n).filter p)[Cn p i]? = some i:=by
 have e : List.range n = List.range i ++ i :: (List.range' (i + 1) (n - i - 1)):=by
  have h1 : List.range n = List.range i ++ List.range' i (n - i):=by
   have:=List.range'_append (s:=0) (m:=i) (n:=n - i) (step:=1)
   rw [Nat.zero_add,Nat.one_mul,show i + (n - i) = n by omega] at this
   rw [List.range_eq_range',List.range_eq_range']
   exact this.symm
  rw [h1]
  congr 1
  rw [show n - i = (n - i - 1) + 1 by omega,List.range'_succ]
  simp
 rw [e,List.filter_append,List.filter_cons,if_pos hp]
 have hl : (List.filter p (List.range i)).length = Cn p i:=by unfold Cn; rw [List.countP_eq_length_filter]
 rw [List.getElem?_append_right (by rw [hl]; exact Nat.le_refl _),hl,Nat.sub_self]
 rfl
theorem ordU_at {v i : Nat} (hi : i < n) (h : f i < v) : (ordU f n v)[posS f n i]? = some i:=by
 induction v with
 | zero => omega
 | succ v ih =>
  rw [zb8]
  by_cases e : f i < v
  ·have h1:=ih e
   rw [List.getElem?_append_left (List.getElem?_eq_some_iff.1 h1).1]
   exact h1
  have e : f i = v:=by omega
  have h2 : posS f n i = (ordU f n v).length + Eqs f v i:=by rw [zdj]; unfold posS; rw [e]
  rw [h2,List.getElem?_append_right (by omega),Nat.add_sub_cancel_left]
  exact filter_at n hi (by simpa using e)
theorem order_is {v : Nat} (h : ∀ i < n,f i < v) {o : List Int} (hl : o.length = n) (ho : ∀ i < n,o[posS f n i]? = some (i : Int)) : o = (ordU f n v).map fun i : Nat => (i : Int):=by
 have hlen : (ordU f n v).length = n:=by
  rw [zdj]
  exact Cn_all fun i hi => by simpa using h i hi
 apply List.ext_getElem?
 intro k
 rw [List.getElem?_map]
 by_cases hk : k < n
 ·obtain ⟨i,hi⟩ : ∃ i,(ordU f n v)[k]? = some i:=⟨(ordU f n v)[k]'(by omega),List.getElem?_eq_getElem _⟩
  have H0:=(zdQ f n).1 (List.mem_of_getElem? hi)
  have h2:=ordU_at f n H0.1 H0.2
  have hkp : k = posS f n i:=(List.getElem?_inj (by omega) (zeK f n v)).1 (hi.trans h2.symm)
  rw [hi,hkp,ho i H0.1]
  rfl
 rw [List.getElem?_eq_none (by omega),List.getElem?_eq_none (by omega)]
 rfl
end
end Go.Proofs.Ytcehklnonhalhaa
namespace Go.Proofs.Ytcehklnonhalhaa
open Go.RowKit
set_option maxRecDepth 4000
def rg (F : Nat → Nat) (k : Nat) : List Value:=(List.range k).map fun u => .int .i64 (F u)
theorem rg_len (F : Nat → Nat) (k : Nat) : (rg F k).length = k:=by simp [rg]
theorem rg_at (F : Nat → Nat) {k u : Nat} (h : u < k) : (rg F k)[u]? = some (.int .i64 (F u)):=by
 unfold rg
 rw [List.getElem?_map,List.getElem?_range h]
 rfl
theorem ze1 {F G : Nat → Nat} {k : Nat} (h : ∀ u < k,F u = G u) : rg F k = rg G k:=by
 unfold rg
 exact List.map_congr_left fun u hu => by rw [h u (List.mem_range.1 hu)]
theorem rg_set (F G : Nat → Nat) {k u x : Nat} (hx : G u = x) (h : ∀ v < k,v ≠ u → F v = G v) : (rg F k).set u (.int .i64 (x : Int)) = rg G k:=by
 apply List.ext_getElem?
 intro v
 rw [List.getElem?_set,rg_len]
 by_cases e : u = v
 ·subst e
  rw [if_pos rfl]
  by_cases hk : u < k
  ·rw [if_pos hk,rg_at G hk,hx]
  rw [if_neg hk,List.getElem?_eq_none (by rw [rg_len]; omega)]
 rw [if_neg e]
 by_cases hk : v < k
 ·rw [rg_at F hk,rg_at G hk,h v hk (fun q => e q.symm)]
 rw [List.getElem?_eq_none (by rw [rg_len]; omega),List.getElem?_eq_none (by rw [rg_len]; omega)]
theorem rg_zero (k : Nat) : List.replicate k (Value.int .i64 0) = rg (fun _ => 0) k:=by
 unfold rg
 rw [List.map_const',List.length_range]
 rfl
def ordS (d : List Nat) : List Int:=(ordU (fun i => d.getD i 0) d.length d.length).map fun i : Nat => (i : Int)
def ordO (d : Option (List Nat)) : List Int:=match d with | some d => ordS d | none => []
theorem most_le {L : List Int} {x : Int} (h : x ∈ L) : x ≤ zdk L:=by
 unfold zdk
 have key : ∀ (L : List Int) (a : Int),a ≤ L.foldl max a ∧ ∀ x ∈ L,x ≤ L.foldl max a:=by
  intro L
  induction L with
  | nil => intro a; exact ⟨Int.le_refl _,fun x hx => by cases hx⟩
  | cons y L ih =>
   intro a
   obtain ⟨h1,h2⟩:=ih (max a y)
   rw [List.foldl_cons]
   refine ⟨by omega,fun x hx => ?_⟩
   rcases List.mem_cons.1 hx with rfl | hx
   ·omega
   exact h2 x hx
 exact (key L 0).2 x h
theorem most_0 (L : List Int) : 0 ≤ zdk L:=by
 unfold zdk
 have key : ∀ (L : List Int) (a : Int),a ≤ L.foldl max a:=by
  intro L
  induction L with
  | nil => intro a; exact Int.le_refl _
  | cons y L ih => intro a; rw [List.foldl_cons]; have:=ih (max a y); omega
 exact key L 0
theorem most_lt {L : List Int} {n : Int} (h0 : 0 ≤ n) (h : ∀ x ∈ L,x ≤ n) : zdk L ≤ n:=by
 unfold zdk
 have key : ∀ (L : List Int) (a : Int),a ≤ n → (∀ x ∈ L,x ≤ n) → L.foldl max a ≤ n:=by
  intro L
  induction L with
  | nil => intro a h _; exact h
  | cons y L ih => intro a ha h; rw [List.foldl_cons]; exact ih _ (by have:=h y (List.mem_cons_self ..); omega) fun x hx => h x (List.mem_cons_of_mem _ hx)
 exact key L 0 h0 h
theorem Own.apart {w : World} {g s : Nat} {t : TypeId} {cs : List Value} (h : Own w g t cs) (hs : g ≠ s) (i : Nat) (v : Value) : Own (w.setCell ⟨s,i,none⟩ v) g t cs:=(Below.heap_setCell w ⟨s,i,none⟩ v g hs).trans h
def slA (f : Nat → Nat) (j u : Nat) : Nat:=if u = 0 then 0 else Eqs f (u - 1) j
def slB (f : Nat → Nat) (n v u : Nat) : Nat:=if u < v then Lt f n u else Eqs f (u - 1) n
def slC (f : Nat → Nat) (n j u : Nat) : Nat:=Lt f n u + Eqs f u j
theorem zdX (f : Nat → Nat) (v j : Nat) : Eqs f v (j + 1) = Eqs f v j + if f j = v then 1 else 0:=by
 unfold Eqs
 rw [zbz]
 simp
theorem slA_hit {f : Nat → Nat} {j p u c c' : Nat} (hp : f j = p) (hu : p + 1 = u) (hc : Eqs f p j = c) (hc' : c + 1 = c') : slA f (j + 1) u = c':=by
 unfold slA
 rw [if_neg (by omega),← hu,Nat.add_sub_cancel,zdX,if_pos hp,hc,hc']
theorem slA_miss {f : Nat → Nat} {j p u : Nat} (hp : f j = p) (hu : p + 1 = u) (v : Nat) (hv : v ≠ u) : slA f j v = slA f (j + 1) v:=by
 unfold slA
 by_cases h : v = 0
 ·rw [if_pos h,if_pos h]
 rw [if_neg h,if_neg h,zdX,if_neg (by omega)]
 rfl
theorem Lt_zero (f : Nat → Nat) (n : Nat) : Lt f n 0 = 0:=Cn_none fun i _ => by simp
theorem slA_B (f : Nat → Nat) (n u : Nat) : slA f n u = slB f n 1 u:=by
 unfold slA slB
 by_cases h : u = 0
 ·rw [if_pos h,if_pos (by omega),h,Lt_zero]
 rw [if_neg h,if_neg (by omega)]
theorem slB_hit {f : Nat → Nat} {n v0 v a b t : Nat} (hv : v0 + 1 = v) (ha : Eqs f v0 n = a) (hb : Lt f n v0 = b) (ht : a + b = t) : slB f n (v + 1) v = t:=by
 unfold slB
 rw [if_pos (by omega),← hv,zfk,ha,hb]
 omega
theorem slB_miss (f : Nat → Nat) (n : Nat) {v u : Nat} (hu : u ≠ v) : slB f n v u = slB f n (v + 1) u:=by
 unfold slB
 by_cases h : u < v
 ·rw [if_pos h,if_pos (by omega)]
 rw [if_neg h,if_neg (by omega)]
theorem slB_C (f : Nat → Nat) (n : Nat) {v u : Nat} (hu : u < v) : slB f n v u = slC f n 0 u:=by
 unfold slB slC
 rw [if_pos hu]
 rfl
theorem slC_hit {f : Nat → Nat} {n j p c c' : Nat} (hp : f j = p) (hc : slC f n j p = c) (hc' : c + 1 = c') : slC f n (j + 1) p = c':=by
 unfold slC at hc ⊢
 rw [zdX,if_pos hp]
 omega
theorem slC_miss {f : Nat → Nat} {j p : Nat} (n : Nat) (hp : f j = p) (v : Nat) (hv : v ≠ p) : slC f n j v = slC f n (j + 1) v:=by
 unfold slC
 rw [zdX,if_neg (by omega)]
 rfl
def OrX (w : World) (v : List Int) (e : Int) (en : Ending) (w' : World) : Prop:=∃ A m c,en = .returned (.tuple #[.slice A m c,.int .i64 e]) ∧ Is w' A m v ∧ m ≤ c ∧ Below w.heap.size w w'
set_option maxHeartbeats 1000000 in
theorem order_wrong {An Ai Ao : Option Addr} {nn cn ni ci no co : Nat} {N : List Nd} {I O : List Pt} {w : World} (h : Nt w An nn cn Ai ni ci Ao no co N I O) {d : Option (List Nat)} {e : Int} (hl : zaB N I O = (d,e)) (d0 : (e != 0) = true) : Calls Try.prog 49 #[.agg #[.slice An nn cn,.slice Ai ni ci,.slice Ao no co]]  w (OrX w [] e):=by
 have HL:=Lib.hid hl
 clear hl
 go_enter Try.func49,Try.ntmps49
 go_upto_region 1 with fail
 obtain ⟨w1,e_w1,b,hs_w1,z0⟩:=zmD w [.slice An nn cn,.slice Ai ni ci,.slice Ao no co] 25
 rw [e_w1]
 clear e_w1
 have BW:=b
 clear b
 clear hs_w1
 have b0:=BW
 replace h:=h.on b0
 clear b0
 obtain ⟨z0c0,z0c1,z0c2⟩:=z0.zb3
 go_wp2_with fail
 refine (zek h HL.out).mono ?_
 rintro en w9 ⟨A,m,cc,rfl,hi,hm,b⟩
 replace BW:=Below.step BW b
 go_wp2_with fail
 refine bodyPost_ret (v:=.tuple #[.slice none 0 0,.int .i64 e]) (by simp [results,Try.results49,go_sem]) rfl ?_
 exact ⟨none,0,0,rfl,Is.nil_,Nat.le_refl _,BW⟩
set_option maxHeartbeats 4000000 in
theorem order_ok {An Ai Ao : Option Addr} {nn cn ni ci no co : Nat} {N : List Nd} {I O : List Pt} {w : World} (h : Nt w An nn cn Ai ni ci Ao no co N I O) {d : List Nat} (hl : zaB N I O = (some d,0)) (hd : d.length = nn) (f : Nat → Nat) (hf : (fun i => d.getD i 0) = f) (hlt : ∀ i < nn,f i < nn) : Calls Try.prog 49 #[.agg #[.slice An nn cn,.slice Ai ni ci,.slice Ao no co]]  w (OrX w (ordS d) 0):=by
 have HL:=Lib.hid hl
 have HD:=Lib.hid hd
 have HF:=Lib.hid hf
 have HT:=Lib.hid hlt
 have HN:=Lib.hid h.hn
 have HV : Hid (ordS d = (ordU f nn nn).map fun i : Nat => (i : Int)):=Lib.hid (by unfold ordS; rw [hf,hd])
 clear hl hd hf hlt
 go_enter Try.func49,Try.ntmps49
 go_upto_region 1 with fail
 obtain ⟨w1,e_w1,b,hs_w1,z0⟩:=zmD w [.slice An nn cn,.slice Ai ni ci,.slice Ao no co] 25
 rw [e_w1]
 clear e_w1
 have BW:=b
 clear b
 clear hs_w1
 have b0:=BW
 replace h:=h.on b0
 clear b0
 obtain ⟨z0c0,z0c1,z0c2⟩:=z0.zb3
 go_wp2_with fail
 refine (zek h HL.out).mono ?_
 rintro en w9 ⟨A,m,cc,rfl,hi,hm,b⟩
 replace BW:=Below.step BW b
 have HI : Hid (m = nn):=Lib.hid (by rw [← hi.1,← HD.out]; simp [ints])
 obtain rfl:=HI.out
 have HG : Hid (∀ i < m,(ints (some d))[i]? = some (f i : Int)):=Lib.hid fun i hi => by
  unfold ints
  rw [← HF.out]
  simp only [Option.getD_some]
  rw [List.getElem?_map,List.getD_eq_getElem?_getD,List.getElem?_eq_getElem (by rw [HD.out]; exact hi)]
  rfl
 obtain ⟨M,hM⟩ : ∃ M : Nat,zdk (ints (some d)) = (M : Int):=⟨(zdk (ints (some d))).toNat,by have:=most_0 (ints (some d)); omega⟩
 have HMf : Hid (∀ i < m,f i ≤ M):=Lib.hid fun i hi => by
  have h1:=most_le (List.mem_of_getElem? (HG.out i hi))
  omega
 have hMn : M ≤ 100000:=by
  have h1 : zdk (ints (some d)) ≤ 100000:=most_lt (by omega) fun x hx => by
   obtain ⟨k,hk⟩:=List.mem_iff_getElem?.1 hx
   by_cases hkm : k < m
   ·rw [HG.out k hkm] at hk
    injection hk with hk
    have:=HT.out k hkm
    have:=HN.out
    omega
   rw [List.getElem?_eq_none (by simp [ints,HD.out]; omega)] at hk
   cases hk
  omega
 have hmn : m ≤ 100000:=HN.out
 go_wp2_with fail
 refine (greatest_as hi (by omega) M hM).mono ?_
 rintro en w10 ⟨rfl,b⟩
 replace hi:=hi.on b
 replace BW:=Below.step BW b
 clear b h hM
 have q2 : IntKind.i64.wrap ((M : Int) + 2) = (M : Int) + 2:=by rw [IntKind.wrap_i64]; omega
 obtain ⟨K,hK⟩ : ∃ K,M + 2 = K:=⟨_,rfl⟩
 have q3 : (M : Int) + 2 = (K : Int):=by omega
 rw [q3] at q2
 go_upto_region 4 with (at_make; refine za2 _ rfl _ _ 39 rfl 3 (.int .i64 0) 8 Try.underlying39 zdT rfl (by omega) _ K rfl rfl rfl (by omega) ?_; intro w1 ho b1 hz1)
 obtain ⟨s,hs⟩ : ∃ s,w10.heap.size = s:=⟨_,rfl⟩
 rw [hs] at ho ⊢
 rw [rg_zero,show rg (fun _ => 0) K = rg (slA f 0) K from ze1 fun u _ => by unfold slA; split <;> rfl] at ho
 clear hz1
 go_loopw [27] (fun i wr => ∃ j : Nat,j ≤ m ∧ i = .int .i64 j ∧ Own wr s 3 (rg (slA f j) K) ∧ Below w10.heap.size w10 wr) (fun i _ => m - (intOf i).toNat)
 case atStart => exact ⟨0,Nat.zero_le _,rfl,ho,b1⟩
 clear ho b1
 obtain ⟨j,hj,rfl,ho,B1⟩:=hrel
 by_cases hlt : j < m
 ·obtain ⟨b2,off2,x,eA,HX,cx⟩:=(hi.on B1).at hlt
  subst eA
  have ex : Hid (x = ((f j : Nat) : Int)):=Lib.hid (by have:=HG.out j hlt; rw [HX.out] at this; injection this)
  obtain rfl:=ex.out
  obtain ⟨p,hp⟩ : ∃ p,f j = p:=⟨_,rfl⟩
  rw [hp] at cx
  have HP:=Lib.hid hp
  have hpM : p ≤ M:=hp ▸ HMf.out j hlt
  obtain ⟨u,hu⟩ : ∃ u,p + 1 = u:=⟨_,rfl⟩
  obtain ⟨c,hc⟩ : ∃ c,Eqs f p j = c:=⟨_,rfl⟩
  have H9 : c ≤ j:=hc ▸ zdF _ _
  obtain ⟨c',hc'⟩ : ∃ c',c + 1 = c':=⟨_,rfl⟩
  have oc:=(ho.cell u).trans (rg_at _ (by omega : u < K))
  rw [show slA f j u = c by unfold slA; rw [if_neg (by omega),← hu,Nat.add_sub_cancel,hc]] at oc
  have of:=ho.free u
  have e1 : (p : Int) + 1 = (u : Int):=by omega
  have e2 : (c : Int) + 1 = (c' : Int):=by omega
  have H0:=ho.put u (.int .i64 (c' : Int))
  rw [rg_set (slA f j) (slA f (j + 1)) (slA_hit hp hu hc hc') (fun v _ hv => slA_miss hp hu v hv)] at H0
  have B3:=B1.setCell (p:=⟨s,u,none⟩) (by show w10.heap.size ≤ s; omega) (.int .i64 (c' : Int))
  clear hp hc HX ex
  go_wp2_with fail
  go_roundw
  case rel => exact ⟨j + 1,by omega,by go_num,H0,B3⟩
  case measure => simp [intOf]; omega
 obtain rfl : j = m:=by omega
 have H1 : Own wr s 3 (rg (slB f j 1) K):=by
  rw [← show rg (slA f j) K = rg (slB f j 1) K from ze1 fun u _ => slA_B f j u]
  exact ho
 clear ho
 obtain ⟨wo,rfl⟩ : ∃ x,x = wr:=⟨_,rfl⟩
 go_wp2_with fail
 go_loopw [9] (fun i wr => ∃ v0 v : Nat,v0 + 1 = v ∧ v ≤ K ∧ i = .int .i64 v ∧ Own wr s 3 (rg (slB f j v) K) ∧ Below w10.heap.size w10 wr) (fun i _ => K - (intOf i).toNat)
 case atStart => exact ⟨0,1,rfl,by omega,rfl,H1,B1⟩
 clear H1 B1
 obtain ⟨v0,v,hv0,hvK,rfl,ho,B1⟩:=hrel
 by_cases hlv : v < K
 ·obtain ⟨a,ha⟩ : ∃ a,Eqs f v0 j = a:=⟨_,rfl⟩
  obtain ⟨b,hb⟩ : ∃ b,Lt f j v0 = b:=⟨_,rfl⟩
  obtain ⟨t,ht⟩ : ∃ t,a + b = t:=⟨_,rfl⟩
  have haj : a ≤ j:=ha ▸ zdF _ _
  have hbj : b ≤ j:=hb ▸ zdF _ _
  have oc:=(ho.cell v).trans (rg_at _ hlv)
  rw [show slB f j v v = a by unfold slB; rw [if_neg (by omega),← hv0,Nat.add_sub_cancel,ha]] at oc
  have H6:=(ho.cell v0).trans (rg_at _ (by omega : v0 < K))
  rw [show slB f j v v0 = b by unfold slB; rw [if_pos (by omega),hb]] at H6
  have of:=ho.free v
  have e1 : (v : Int) - 1 = (v0 : Int):=by omega
  have e2 : (a : Int) + (b : Int) = (t : Int):=by omega
  have i0 : (0 : Int) ≤ (v0 : Int):=by omega
  have i1 : (v0 : Int) < (K : Int):=by omega
  have i2 : (0 : Int) ≤ (v : Int):=by omega
  have i3 : (v : Int) < (K : Int):=by omega
  have H0:=ho.put v (.int .i64 (t : Int))
  rw [rg_set (slB f j v) (slB f j (v + 1)) (slB_hit hv0 ha hb ht) (fun u _ hu => slB_miss f j hu)] at H0
  have B3:=B1.setCell (p:=⟨s,v,none⟩) (by show w10.heap.size ≤ s; omega) (.int .i64 (t : Int))
  go_wp2_with fail
  go_region
  go_wp2_with fail
  go_roundw
  case rel => exact ⟨v,v + 1,rfl,by omega,by go_num,H0,B3.drew⟩
  case measure => simp [intOf]; omega
 obtain rfl : v = K:=by omega
 have H1 : Own wr s 3 (rg (slC f j 0) v):=by
  rw [← show rg (slB f j v) v = rg (slC f j 0) v from ze1 fun u hu => slB_C f j hu]
  exact ho
 clear ho
 obtain ⟨wo,rfl⟩ : ∃ x,x = wr:=⟨_,rfl⟩
 have hj2 : j ≤ 100000:=hmn
 go_wp2_with (at_make; refine za2 _ rfl _ _ 39 rfl 3 (.int .i64 0) 8 Try.underlying39 zdT rfl (by omega) _ j rfl rfl rfl (by omega) ?_; intro w2 hr b2 hz2)
 have H0:=H1.below b2 H1.lt
 have hsr : s < wo.heap.size:=H1.lt
 obtain ⟨r,hr0⟩ : ∃ r,wo.heap.size = r:=⟨_,rfl⟩
 rw [hr0] at hr hsr ⊢
 have H8 : s ≠ r:=by omega
 have H7 : r ≠ s:=by omega
 have B2:=Below.step B1 b2
 have hr' : Own w2 r 3 (ivs (List.replicate j 0)):=by unfold ivs; rw [List.map_replicate]; exact hr
 clear hr hz2 H1 b2
 go_loopw [61] (fun i wr => ∃ k : Nat,k ≤ j ∧ i = .int .i64 k ∧ (∃ o : List Int,o.length = j ∧ (∀ i < k,o[posS f j i]? = some (i : Int)) ∧ Own wr r 3 (ivs o)) ∧ Own wr s 3 (rg (slC f j k) v) ∧ Below w10.heap.size w10 wr) (fun i _ => j - (intOf i).toNat)
 case atStart => exact ⟨0,Nat.zero_le _,rfl,⟨_,by simp,fun i hi => absurd hi (by omega),hr'⟩,H0,B2⟩
 clear hr' H0 B1 B2
 obtain ⟨k,hk,rfl,⟨o,hol,hop,hor⟩,ho,B1⟩:=hrel
 have HO:=Lib.hid hop
 have H3:=Lib.hid hol
 clear hop hol
 by_cases hlt : k < j
 ·obtain ⟨b2,off2,x,eA,HX,cx⟩:=(hi.on B1).at hlt
  subst eA
  have ex : Hid (x = ((f k : Nat) : Int)):=Lib.hid (by have:=HG.out k hlt; rw [HX.out] at this; injection this)
  obtain rfl:=ex.out
  obtain ⟨p,hp⟩ : ∃ p,f k = p:=⟨_,rfl⟩
  rw [hp] at cx
  have hpM : p ≤ M:=hp ▸ HMf.out k hlt
  obtain ⟨c,hc⟩ : ∃ c,slC f j k p = c:=⟨_,rfl⟩
  have H5 : posS f j k = c:=by unfold posS; rw [hp]; exact hc
  have H9 : c < j:=H5 ▸ pos_lt f j hlt
  obtain ⟨c',hc'⟩ : ∃ c',c + 1 = c':=⟨_,rfl⟩
  have hpK : p < v:=by omega
  have oc:=(ho.cell p).trans (rg_at _ hpK)
  rw [hc] at oc
  have of:=hor.free c
  obtain ⟨y,hy⟩:=zat H3.out H9
  have oy:=(hor.cell c).trans (zbU hy)
  have H4:=ho.apart H8 c (.int .i64 (k : Int))
  have H6:=(H4.cell p).trans (rg_at _ hpK)
  rw [hc] at H6
  have of2:=H4.free p
  have e2 : (c : Int) + 1 = (c' : Int):=by omega
  have i0 : (0 : Int) ≤ (p : Int):=by omega
  have i1 : (p : Int) < (v : Int):=by omega
  have i2 : (0 : Int) ≤ (c : Int):=by omega
  have i3 : (c : Int) < (j : Int):=by omega
  have ho4:=H4.put p (.int .i64 (c' : Int))
  rw [rg_set (slC f j k) (slC f j (k + 1)) (slC_hit hp hc hc') (fun u _ hu => slC_miss j hp u hu)] at ho4
  have H2:=(hor.put c (.int .i64 (k : Int))).apart H7 p (.int .i64 (c' : Int))
  rw [zc6] at H2
  have B3:=(B1.setCell (p:=⟨r,c,none⟩) (by show w10.heap.size ≤ r; omega) (.int .i64 (k : Int))).setCell (p:=⟨s,p,none⟩) (by show w10.heap.size ≤ s; omega) (.int .i64 (c' : Int))
  have HO4 : Hid (∀ i < k + 1,(o.set c (k : Int))[posS f j i]? = some (i : Int)):=Lib.hid fun i hi => by
   rw [List.getElem?_set]
   by_cases e : i = k
   ·subst e
    rw [if_pos H5.symm,if_pos (by rw [H3.out]; exact H9)]
   rw [if_neg (by rw [← H5]; exact pos_ne f j hlt (by omega) (fun q => e q.symm))]
   exact HO.out i (by omega)
  have HL4 : Hid ((o.set c (k : Int)).length = j):=Lib.hid (by rw [List.length_set]; exact H3.out)
  clear hp hc H5 HX ex H4 hy
  go_wp2_with fail
  go_roundw
  case rel => exact ⟨k + 1,by omega,by go_num,⟨_,HL4.out,HO4.out,H2⟩,ho4,B3⟩
  case measure => simp [intOf]; omega
 obtain rfl : k = j:=by omega
 have HE : Hid (o = ordS d):=Lib.hid (by rw [HV.out]; exact order_is f k HT.out H3.out HO.out)
 go_wp2_with fail
 refine bodyPost_ret (v:=.tuple #[.slice (some ⟨r,0,none⟩) k k,.int .i64 0]) (by simp [results,Try.results49,go_sem]) rfl ?_
 refine ⟨_,_,_,rfl,⟨by rw [← HE.out]; exact H3.out,fun i x hx => ⟨r,0,rfl,hor.lt,?_⟩⟩,Nat.le_refl _,Below.step BW B1⟩
 rw [Nat.zero_add]
 rw [← HE.out] at hx
 exact (hor.cell i).trans (zbU hx)
theorem order_as {An Ai Ao : Option Addr} {nn cn ni ci no co : Nat} {N : List Nd} {I O : List Pt} {w : World} (h : Nt w An nn cn Ai ni ci Ao no co N I O) {d : Option (List Nat)} {e : Int} (hl : zaB N I O = (d,e)) : Calls Try.prog 49 #[.agg #[.slice An nn cn,.slice Ai ni ci,.slice Ao no co]]  w (OrX w (ordO d) e):=by
 cases d with
 | none =>
  refine order_wrong h hl ?_
  have : e ≠ 0:=by
   intro e0
   unfold zaB at hl
   split at hl
   ·rename_i h1
    injection hl with h2 h3
    exact h1 (h3.trans e0)
   split at hl
   ·injection hl with h2 h3
    cases h2
   injection hl with h2 h3
   omega
  simpa using this
 | some d =>
  have key : e = 0 ∧ levS N = some d:=by
   unfold zaB at hl
   split at hl
   ·injection hl with h2 h3
    cases h2
   split at hl
   ·rename_i dd hdd
    injection hl with h2 h3
    injection h2 with h2
    subst h2
    exact ⟨h3.symm,hdd⟩
   injection hl with h2 h3
   cases h2
  obtain ⟨rfl,hd⟩:=key
  obtain ⟨h1,h2⟩:=zcA hd
  have hN:=h.n.1
  refine order_ok h hl (by omega) _ rfl fun i hi => ?_
  have:=all_lt h2 (show i < N.length by omega)
  omega
end Go.Proofs.Ytcehklnonhalhaa
