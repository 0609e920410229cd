/-
  What the proofs of ShareSame and ShareLeft need: Gt.
-/
import Derived.Test.YtcehklnonhalhaaSHGr
namespace Go.Proofs.Ytcehklnonhalhaa
open Go.RowKit
set_option linter.unusedVariables false
set_option maxRecDepth 4000

set_option maxHeartbeats 1000000 in
theorem rints_as {A C : Option Addr} {n c k d : Nat} {L M : List Int} {w : World} (hL : Is w A n L) (hM : Is w C k M) (hn : n ≤ 1000000) (v : Bool) (hv : (L == M) = v) :
    Calls Try.prog 33 #[.slice A n c, .slice C k d] w fun e w' => e = .returned (.bool v) ∧ Below w.heap.size w w' := by
  have HV := Lib.hid hv
  have HL := Lib.hid hL.1
  have HM := Lib.hid hM.1
  clear hv
  go_enter Try.func33, Try.ntmps33
  by_cases e : n = k
  case neg =>
    have e0 : ¬ k = n := fun h => e h.symm
    have e1 : (((n : Nat) : Int) != (k : Int)) = true := by simp; omega
    have HE := Lib.hid (len_no (L := L) (M := M) (by rw [HL.out, HM.out]; exact e))
    go_wp2_with fail
    go_ret
    exact ⟨ret_bool (by rw [← HV.out, HE.out]), Below.refl _ _⟩
  subst e
  have e1 : (((n : Nat) : Int) != (n : Int)) = false := by simp
  go_wp2_with fail
  go_loopw [5] (fun i wr => ∃ j : Nat, j ≤ n ∧ i = .int .i64 j ∧ L.take j = M.take j ∧ Below w.heap.size w wr) (fun i _ => n - (intOf i).toNat)
  case atStart => exact ⟨0, Nat.zero_le _, rfl, rfl, Below.refl _ _⟩
  case round =>
    obtain ⟨j, hj, rfl, hp, BW⟩ := hrel
    have HP := Lib.hid hp
    clear hp
    by_cases hlt : j < n
    · obtain ⟨b0, off, x, eA, HX, cx⟩ := (hL.on BW).at hlt
      obtain ⟨b1, off1, y, eC, HY, cy⟩ := (hM.on BW).at hlt
      subst eA
      have hjn : (j : Int) < (n : Int) := by omega
      have hj0 : (0 : Int) ≤ (j : Int) := by omega
      try subst eC
      by_cases e : x = y
      · subst e
        have HT := Lib.hid (pref_succ HP.out HX.out HY.out)
        go_wp2_with fail
        go_region
        go_wp2_with fail
        go_roundw
        case rel => exact ⟨j + 1, by omega, by go_num, HT.out, BW.drew⟩
        case measure => simp [intOf]; omega
      · have HE := Lib.hid (pref_no HX.out HY.out e)
        have e1 : (x != y) = true := by simp [e]
        go_wp2_with fail
        go_region
        go_wp2_with fail
        go_ret
        exact ⟨ret_bool (by rw [← HV.out, HE.out]), BW.drew⟩
    · obtain rfl : j = n := by omega
      have HE := Lib.hid (pref_end HL.out HM.out HP.out)
      go_wp2_with fail
      go_ret
      exact ⟨ret_bool (by rw [← HV.out, HE.out]), BW⟩
/-- a port that lies so. -/
structure PtAt (w : World) (b o : Nat) (nm : ByteArray) (A : Option Addr) (m c : Nat) (bs : List Int) : Prop where
  lt : b < w.heap.size
  c1 : w.cell? ⟨b, o, none⟩ = some (.string nm)
  c2 : w.cell? ⟨b, o + 1, none⟩ = some (.slice A m c)
  bits : Is w A m bs
theorem PtAt.on {w w' : World} {b o : Nat} {nm : ByteArray} {A : Option Addr} {m c : Nat} {bs : List Int} (h : PtAt w b o nm A m c bs) (hb : Below w.heap.size w w') : PtAt w' b o nm A m c bs :=
  ⟨Nat.lt_of_lt_of_le h.lt hb.size, (hb.cell (p := ⟨b, o, none⟩) h.lt).trans h.c1, (hb.cell (p := ⟨b, o + 1, none⟩) h.lt).trans h.c2, h.bits.on hb⟩
end Go.Proofs.Ytcehklnonhalhaa
