/-
  What the proofs of OptSweeps and OptSettles need: Yw.
-/
import Derived.Test.YtcehklnonhalhaaSOYl
import Derived.Test.YtcehklnonhalhaaSOYy
namespace Go.Proofs.Ytcehklnonhalhaa
open Go.RowKit
set_option linter.unusedVariables false
set_option maxRecDepth 4000

theorem Bx.n0 {w : World} {s : Nat} {a b c : Value} (z : Bx w s [a, b, c]) : w.cell? ⟨s, 0, none⟩ = some a := z.2 0 _ rfl
theorem Bx.n1 {w : World} {s : Nat} {a b c : Value} (z : Bx w s [a, b, c]) : w.cell? ⟨s, 1, none⟩ = some b := z.2 1 _ rfl
theorem Bx.n2 {w : World} {s : Nat} {a b c : Value} (z : Bx w s [a, b, c]) : w.cell? ⟨s, 2, none⟩ = some c := z.2 2 _ rfl
theorem some_of9 {N : List Nd} {I O : List Pt} {d : Option (List Nat)} (hl : levelS N I O = (d, 0)) : ∃ dd, d = some dd := by
  unfold levelS at hl
  split at hl
  · rename_i h
    injection hl with h1 h2
    exact absurd h2 h
  · split at hl
    · injection hl with h1 h2
      exact ⟨_, h1.symm⟩
    · injection hl with h1 h2
      cases h2
theorem idx_lt {N : List Nd} {L : List Nat} (hLm : ∀ i, i ∈ L ↔ i < N.length) : ∀ q, q < N.length → L.idxOf q < L.length := fun q hq => (List.getElem?_eq_some_iff.1 (idx_at ((hLm q).2 hq))).1
theorem outF_pa (S : List Int) (O : List Pt) : Pa O (O.map (outF S)) := Pa.map (outF S) (fun p => ⟨rfl, by unfold outF; exact List.length_map ..⟩) O
theorem outF_names (S : List Int) (O : List Pt) : (O.map (outF S)).map Pt.name = O.map Pt.name := by
  rw [List.map_map]
  rfl
structure RwA (N : List Nd) (I O : List Pt) (M : List Nd) (I2 O2 : List Pt) : Prop where
  lev : ∃ d2, levelS M I2 O2 = (some d2, 0)
  fm : M.all (formedS M.length) = true
  bits : (I2 ++ O2).all (bitsS M.length) = true
  all : ∃ g, All M g
  run : ∀ xss L L2, Odr N L → Odr M L2 → rrunX M I2 O2 (nI L2) xss = rrunX N I O (nI L) xss
theorem rw_all {N : List Nd} {I O : List Pt} {dd : List Nat} {pos : Nat → Nat} {i : Nat} {M : List Nd} {S : List Int} (hl : levelS N I O = (some dd, 0)) (hp : Pos N pos) (h : RwN N pos i M S) (hall : ∀ q, q < N.length → pos q < i) : RwA N I O (M.map (dffS S)) I (O.map (outF S)) := by
  obtain ⟨_, _, hf, hb, _, _, _⟩ := od_of hl
  have hs := h.same hp hall
  have hlen : (M.map (dffS S)).length = N.length := by rw [List.length_map, h.lm]
  have hpl : ∀ p ∈ O, ∀ q ∈ p.bits, placeS (N.length : Int) q = true := fun p hp q hq => by
    have h1 := hb p (List.mem_append_right _ hp)
    unfold bitsS at h1
    exact List.all_eq_true.1 (Bool.and_eq_true_iff.1 h1).2 q hq
  have hO2 : (O.map (outF S)).all (bitsS N.length) = true := by
    rw [List.all_eq_true]
    intro p hp
    obtain ⟨p0, hp0, rfl⟩ := List.mem_map.1 hp
    have h1 := hb p0 (List.mem_append_right _ hp0)
    unfold bitsS at h1 ⊢
    rw [Bool.and_eq_true_iff] at h1 ⊢
    refine ⟨?_, ?_⟩
    · have := of_decide_eq_true h1.1
      apply decide_eq_true
      unfold outF
      intro e
      exact this (List.map_eq_nil_iff.1 e)
    · rw [List.all_eq_true]
      intro y hy
      unfold outF at hy
      obtain ⟨z, hz, rfl⟩ := List.mem_map.1 hy
      have hz := hpl p0 hp0 z hz
      unfold placeS at hz
      simp at hz
      obtain ⟨m, rfl⟩ := Int.eq_ofNat_of_zero_le hz.1
      exact h.place hall (by omega)
  obtain ⟨d2, hd2, _⟩ := check_same hl hs (h.input hall) (outF_names S O) hO2
  refine ⟨⟨d2, hd2⟩, hs.fm, ?_, hs.all, fun xss L L2 ho ho2 => run_same hs ho ho2 hf (fun s inn u g1 g2 => h.outs hall hpl g1 g2) xss⟩
  rw [hlen, List.all_append, Bool.and_eq_true_iff]
  exact ⟨List.all_eq_true.2 fun p hp => hb p (List.mem_append_left _ hp), hO2⟩
/-- what a net's order gives. -/
structure LvN (N : List Nd) (I O : List Pt) (dd L : List Nat) : Prop where
  lev : levelS N I O = (some dd, 0)
  ord : ordO (some dd) = nI L
  nd : L.Nodup
  mem : ∀ i, i ∈ L ↔ i < N.length
  pos : Pos N (fun q => L.idxOf q)
  pl : ∀ p ∈ O, ∀ q ∈ p.bits, placeS (N.length : Int) q = true
  fm : N.all (formedS N.length) = true
  bits : (I ++ O).all (bitsS N.length) = true
  all : ∃ f, All N f
theorem lv_x {N : List Nd} {I O : List Pt} {dd : List Nat} (hl : levelS N I O = (some dd, 0)) : ∃ L, LvN N I O dd L := by
  obtain ⟨L, h1, h2, h3, h4⟩ := pos_of hl
  obtain ⟨_, _, hf, hb, _, ho, _⟩ := od_of hl
  refine ⟨L, hl, h1, h2, h3, h4, fun p hp q hq => ?_, hf, List.all_eq_true.2 hb, ?_⟩
  · have h1 := hb p (List.mem_append_right _ hp)
    unfold bitsS at h1
    exact List.all_eq_true.1 (Bool.and_eq_true_iff.1 h1).2 q hq
  · unfold levelS at hl
    split at hl
    · injection hl with h1 h2
      cases h1
    · split at hl
      · rename_i d hd
        exact ⟨_, (levS_some hd).2⟩
      · injection hl with h1 h2
        cases h1
end Go.Proofs.Ytcehklnonhalhaa
