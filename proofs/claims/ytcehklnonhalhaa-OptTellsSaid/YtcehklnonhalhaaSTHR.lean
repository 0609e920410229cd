/-
  What the proofs of OptTells need: HR.
-/
import Derived.Test.YtcehklnonhalhaaSTHa
import Derived.Deep.QuietTactic
import Derived.BigQuiet
import Derived.Test.YtcehklnonhalhaaSTGbf
import Derived.Test.YtcehklnonhalhaaRows
set_option linter.unusedVariables false
namespace Go.Proofs.Ytcehklnonhalhaa
open Go.RowKit
set_option maxRecDepth 4000
/-! rows zbG place by place -/
def stR (x : Nd) : Int:=if x.k = 7 then x.b else 0
def nxR (v : List Int) (x : Nd) : Int:=if x.k = 7 then atI v x.a else 0
def zcP (N : List Nd) : List Int:=N.map stR
def zeC (N : List Nd) (v : List Int) : List Int:=N.map (nxR v)
def refR (N : List Nd) (L st inn : List Int) : Nat → List Int
 | 0 => List.replicate N.length 0
 | j + 1 => (refR N L st inn j).set (L.getD j 0).toNat (zcx (N.getD (L.getD j 0).toNat nd0) st inn (L.getD j 0).toNat (refR N L st inn j))
set_option maxRecDepth 4000
theorem v01.getD {v : List Int} (h : v01 v) (i : Nat) : v.getD i 0 = 0 ∨ v.getD i 0 = 1:=by
 have:=h.at (i : Int)
 unfold atI at this
 rwa [Int.toNat_natCast] at this
theorem node_01 {x : Nd} {n : Int} (hf : zaf n x = true) {st inn u : List Int} (hs : v01 st) (hi : v01 inn) (hu : v01 u) (i : Nat) : zcx x st inn i u = 0 ∨ zcx x st inn i u = 1:=by
 unfold zcx
 unfold zaf zcS bitS at hf
 simp only [Bool.and_eq_true] at hf
 have h2:=hf.2.2.2
 by_cases h0 : x.k = 0
 ·rw [if_pos h0] at h2 ⊢
  simpa using h2
 rw [if_neg h0]
 by_cases h1 : x.k = 1
 ·rw [if_pos h1]; exact hi.getD i
 rw [if_neg h1]
 by_cases h7 : x.k = 7
 ·rw [if_pos h7]; exact hs.getD i
 rw [if_neg h7]
 exact gvS_01 _ (hu.at _) (hu.at _)
theorem ze2 {N : List Nd} {n : Int} (hf : N.all (zaf n) = true) {L st inn : List Int} (hq : ∀ q ∈ L,q.toNat < N.length) (hs : v01 st) (hi : v01 inn) : ∀ j,j ≤ L.length → v01 (refR N L st inn j)
 | 0,_ => fun x hx => by
  unfold refR at hx
  exact .inl (List.mem_replicate.1 hx).2
 | j + 1,hj => by
  unfold refR
  refine (ze2 hf hq hs hi j (by omega)).set _ (node_01 (zbF hf ?_) hs hi (ze2 hf hq hs hi j (by omega)) _)
  rw [List.getD_eq_getElem?_getD,List.getElem?_eq_getElem (by omega)]
  exact hq _ (List.getElem_mem _)
set_option maxRecDepth 4000
set_option maxRecDepth 4000
set_option maxRecDepth 4000
/-! what the reference tells -/
def rval (N : List Nd) (I : List Pt) (L st : List Int) (xs : List Nat) : List Int:=refR N L st (insR I xs (List.replicate N.length 0) I.length) L.length
def rst (N : List Nd) (I : List Pt) (L : List Int) (xss : List (List Nat)) : Nat → List Int
 | 0 => zcP N
 | j + 1 => zeC N (rval N I L (rst N I L xss j) (xss.getD j []))
def rtold (N : List Nd) (I O : List Pt) (L : List Int) (xss : List (List Nat)) (j : Nat) : List Nat:=outS O (rval N I L (rst N I L xss j) (xss.getD j []))
def ze0 (N : List Nd) (I O : List Pt) (L : List Int) (xss : List (List Nat)) : List (List Nat) × Int:=if xss.all (zeE I) then ((List.range xss.length).map (rtold N I O L xss),0) else ([],5)
section
variable {b : Nat} {w w' : World} {A : Option Addr} {n : Nat} {xss : List (List Nat)}
end
theorem start_01 {N : List Nd} {n : Int} (hf : N.all (zaf n) = true) : v01 (zcP N):=fun x hx => by
 unfold zcP at hx
 obtain ⟨y,hy,rfl⟩:=List.mem_map.1 hx
 have h1:=List.all_eq_true.1 hf y hy
 unfold zaf zcS bitS at h1
 simp only [Bool.and_eq_true] at h1
 have h2:=h1.2.2.2
 unfold stR
 by_cases h7 : y.k = 7
 ·rw [if_neg (by omega),if_pos h7] at h2
  rw [if_pos h7]
  simpa using h2
 rw [if_neg h7]
 exact .inl rfl
theorem next_01 {N : List Nd} {v : List Int} (h : v01 v) : v01 (zeC N v):=fun x hx => by
 unfold zeC at hx
 obtain ⟨y,hy,rfl⟩:=List.mem_map.1 hx
 unfold nxR
 split
 ·exact h.at _
 exact .inl rfl
theorem setR_01 (bs : List Int) (x : Nat) {v : List Int} (h : v01 v) : ∀ j,v01 (setR bs x v j)
 | 0 => h
 | j + 1 => by
  unfold setR
  split
  ·exact (setR_01 bs x h j).set _ (.inr rfl)
  exact setR_01 bs x h j
theorem insR_01 (I : List Pt) (xs : List Nat) {v : List Int} (h : v01 v) : ∀ j,v01 (insR I xs v j)
 | 0 => h
 | j + 1 => setR_01 _ _ (insR_01 I xs h j) _
theorem zero_01 (n : Nat) : v01 (List.replicate n (0 : Int)):=fun x hx => .inl (List.mem_replicate.1 hx).2
theorem rval_01 {N : List Nd} {n : Int} (hf : N.all (zaf n) = true) (I : List Pt) {L st : List Int} (xs : List Nat) (hq : ∀ q ∈ L,q.toNat < N.length) (hs : v01 st) : v01 (rval N I L st xs):=
 ze2 hf hq hs (insR_01 _ _ (zero_01 _) _) _ (Nat.le_refl _)
theorem rst_01 {N : List Nd} {n : Int} (hf : N.all (zaf n) = true) (I : List Pt) {L : List Int} (xss : List (List Nat)) (hq : ∀ q ∈ L,q.toNat < N.length) : ∀ j,v01 (rst N I L xss j)
 | 0 => start_01 hf
 | j + 1 => next_01 (rval_01 hf I _ hq (rst_01 hf I xss hq j))
end Go.Proofs.Ytcehklnonhalhaa
namespace Go.Proofs.Ytcehklnonhalhaa
set_option maxRecDepth 4000
theorem refR_is (N : List Nd) (L st inn : List Int) : ∀ j,refR N L st inn j = runL (fun q u => zcx (N.getD q nd0) st inn q u) ((List.range j).map fun i => (L.getD i 0).toNat) (List.replicate N.length 0)
 | 0 => rfl
 | j + 1 => by
  unfold refR
  rw [List.range_succ,List.map_append,refR_is N L st inn j]
  unfold runL
  rw [List.foldl_append]
  rfl
theorem refR_nI (N : List Nd) (L : List Nat) (st inn : List Int) : refR N (nI L) st inn (nI L).length = runL (fun q u => zcx (N.getD q nd0) st inn q u) L (List.replicate N.length 0):=by
 rw [refR_is]
 congr 1
 rw [range_map (nI L) 0 Int.toNat]
 unfold nI
 rw [List.map_map]
 exact (List.map_congr_left fun x _ => Int.toNat_natCast x).trans (List.map_id _)
section
variable {N : List Nd} {f : Nat → Nat} {L : List Nat} (ho : Od N f L) (hf : N.all (zaf N.length) = true)
include ho hf
omit hf in
end
/-! what comes in -/
section
variable {N : List Nd} {f : Nat → Nat} {L : List Nat} (ho : Od N f L) (hf : N.all (zaf N.length) = true) {I : List Pt} (hfd : fedS N I = true) (hp : ∀ p ∈ I,∀ q ∈ p.bits,0 ≤ q ∧ q.toNat < N.length)
include ho hf hfd hp
omit hf hfd hp in
end
end Go.Proofs.Ytcehklnonhalhaa
namespace Go.Proofs.Ytcehklnonhalhaa
open Go.RowKit
set_option maxRecDepth 4000
set_option maxRecDepth 4000
section
variable {b : Nat} {w w' : World} {A : Option Addr} {n : Nat} {T : List (Sm × List Sn)}
end
end Go.Proofs.Ytcehklnonhalhaa
namespace Go.Proofs.Ytcehklnonhalhaa
open Go.RowKit
set_option maxRecDepth 4000
open Go.RowKit Go.ChangeShapes Go.WideShapes
set_option maxRecDepth 4000
section
variable {H : Type} {enc : TypeId × Value → H} {w : World}
end
end Go.Proofs.Ytcehklnonhalhaa
