/-
  What the proofs of OptTells need: Yv Ye.
-/
import Derived.Test.YtcehklnonhalhaaSTYy
import Derived.Test.YtcehklnonhalhaaSTGt
import Derived.Test.YtcehklnonhalhaaSTLex
import Derived.Test.YtcehklnonhalhaaSTGC
import Derived.Test.YtcehklnonhalhaaSTGf
import Derived.Maps.Views
import Derived.Maps.Own
import Derived.Maps.OwnOps
import Derived.Maps.OwnSet
import Derived.WalkSmall
set_option linter.unusedVariables false
namespace Go.Proofs.Ytcehklnonhalhaa
open Go.RowKit
set_option maxRecDepth 4000
theorem nI_inj : ∀ {A B : List Nat},nI A = nI B → A = B
 | [],[],_ => rfl
 | [],b :: B,h => by cases h
 | a :: A,[],h => by cases h
 | a :: A,b :: B,h => by
  unfold nI at h
  rw [List.map_cons,List.map_cons] at h
  injection h with h1 h2
  have h1 : ((a : Nat) : Int) = (b : Int):=h1
  rw [nI_inj (A:=A) (B:=B) h2,show a = b by omega]
attribute [local go_sem ↓] zbT zbS
end Go.Proofs.Ytcehklnonhalhaa
namespace Go.Proofs.Ytcehklnonhalhaa
open Go.RowKit
open Go.Maps (Keyed)
set_option maxRecDepth 4000
theorem snocI (T : List Int) : T = [] ∨ ∃ V q,T = V ++ [q]:=by
 rcases List.eq_nil_or_concat T with h | ⟨V,q,h⟩
 ·exact .inl h
 exact .inr ⟨V,q,by simpa using h⟩
def lenW : Value → Nat
 | .slice _ n _ => n
 | _ => 0
theorem row_len {w : World} {B n : Nat} {e : TypeId} {s : Nat} {v : Value} {xs : List Value} (h : w.ownsRow B e s v n xs) : lenW v = n:=by
 obtain ⟨A,c,rfl,_⟩:=zaP h
 rfl
theorem row_last {w : World} {B : Nat} {v : Value} {V : List Int} {q : Int} (h : w.ownsRow B 3 1 v (V ++ [q]).length ((V ++ [q]).flatMap inC)) : ∃ b c,v = .slice (some ⟨b,0,none⟩) (V.length + 1) c ∧ V.length + 1 ≤ c ∧ w.cell? ⟨b,V.length,none⟩ = some (.int .i64 q) ∧ w.ownsRow B 3 1 (.slice (some ⟨b,0,none⟩) V.length c) V.length (V.flatMap inC):=by
 have hl : (V.flatMap inC).length = V.length * 1:=zas inC 1 zaC V
 rw [List.length_append,List.length_singleton,List.flatMap_append] at h
 obtain ⟨A,c,rfl,sw,_⟩:=zaP h
 rcases row_own h with ⟨_,e,_⟩ | ⟨b,rfl,_,_⟩
 ·omega
 have hc:=h.cellAt V.length (by omega)
 rw [List.getElem?_append_right (by omega)] at hc
 have e0 : V.length - (V.flatMap inC).length = 0:=by omega
 rw [e0] at hc
 exact ⟨b,c,rfl,sw.1,hc,ownsRow_pop hl h⟩
end Go.Proofs.Ytcehklnonhalhaa
