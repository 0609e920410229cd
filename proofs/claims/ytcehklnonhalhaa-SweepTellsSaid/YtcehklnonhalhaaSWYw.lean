/-
  What the proofs of SweepTells and SweepCones and SweepSame need: Yw.
-/
import Derived.Test.YtcehklnonhalhaaSWYl
import Derived.Test.YtcehklnonhalhaaSWYx
namespace Go.Proofs.Ytcehklnonhalhaa
open Go.RowKit
set_option linter.unusedVariables false
set_option maxRecDepth 4000

theorem Bx.n0 {w : World} {s : Nat} {a b c : Value} (z : Bx w s [a, b, c]) : w.cell? ⟨s, 0, none⟩ = some a := z.2 0 _ rfl
theorem Bx.n1 {w : World} {s : Nat} {a b c : Value} (z : Bx w s [a, b, c]) : w.cell? ⟨s, 1, none⟩ = some b := z.2 1 _ rfl
theorem Bx.n2 {w : World} {s : Nat} {a b c : Value} (z : Bx w s [a, b, c]) : w.cell? ⟨s, 2, none⟩ = some c := z.2 2 _ rfl
theorem some_of9 {N : List Nd} {I O : List Pt} {d : Option (List Nat)} (hl : levelS N I O = (d, 0)) : ∃ dd, d = some dd := by
  unfold levelS at hl
  split at hl
  · rename_i h
    injection hl with h1 h2
    exact absurd h2 h
  · split at hl
    · injection hl with h1 h2
      exact ⟨_, h1.symm⟩
    · injection hl with h1 h2
      cases h2
theorem outF_pa (S : List Int) (O : List Pt) : Pa O (O.map (outF S)) := Pa.map (outF S) (fun p => ⟨rfl, by unfold outF; exact List.length_map ..⟩) O
theorem outF_names (S : List Int) (O : List Pt) : (O.map (outF S)).map Pt.name = O.map Pt.name := by
  rw [List.map_map]
  rfl
structure RwA (N : List Nd) (I O : List Pt) (M : List Nd) (I2 O2 : List Pt) : Prop where
  lev : ∃ d2, levelS M I2 O2 = (some d2, 0)
  fm : M.all (formedS M.length) = true
  bits : (I2 ++ O2).all (bitsS M.length) = true
  all : ∃ g, All M g
  run : ∀ xss L L2, Odr N L → Odr M L2 → rrunX M I2 O2 (nI L2) xss = rrunX N I O (nI L) xss
/-- what a net's order gives. -/
structure LvN (N : List Nd) (I O : List Pt) (dd L : List Nat) : Prop where
  lev : levelS N I O = (some dd, 0)
  ord : ordO (some dd) = nI L
  nd : L.Nodup
  mem : ∀ i, i ∈ L ↔ i < N.length
  pos : Pos N (fun q => L.idxOf q)
  pl : ∀ p ∈ O, ∀ q ∈ p.bits, placeS (N.length : Int) q = true
  fm : N.all (formedS N.length) = true
  bits : (I ++ O).all (bitsS N.length) = true
  all : ∃ f, All N f
theorem lv_x {N : List Nd} {I O : List Pt} {dd : List Nat} (hl : levelS N I O = (some dd, 0)) : ∃ L, LvN N I O dd L := by
  obtain ⟨L, h1, h2, h3, h4⟩ := pos_of hl
  obtain ⟨_, _, hf, hb, _, ho, _⟩ := od_of hl
  refine ⟨L, hl, h1, h2, h3, h4, fun p hp q hq => ?_, hf, List.all_eq_true.2 hb, ?_⟩
  · have h1 := hb p (List.mem_append_right _ hp)
    unfold bitsS at h1
    exact List.all_eq_true.1 (Bool.and_eq_true_iff.1 h1).2 q hq
  · unfold levelS at hl
    split at hl
    · injection hl with h1 h2
      cases h1
    · split at hl
      · rename_i d hd
        exact ⟨_, (levS_some hd).2⟩
      · injection hl with h1 h2
        cases h1
end Go.Proofs.Ytcehklnonhalhaa
