
/-
  The reference of layer 6: times, how often a place comes in.
-/
import Derived.Test.YtacphhfhahgeaaaGx
namespace Go.Proofs.Ytacphhfhahgeaaa
open Go.RowKit
set_option linter.unusedVariables false
set_option maxRecDepth 4000

theorem count_snoc {L : List Int} {l : Nat} {x a : Int} (h : L[l]? = some x) (P : List Int) : (P ++ L.take (l + 1)).count a = (P ++ L.take l).count a + if x = a then 1 else 0 := by
  rw [List.take_add_one, h, ← List.append_assoc, List.count_append]
  congr 1
  simp [List.count_cons]
set_option maxHeartbeats 4000000 in
/-- HOW OFTEN A PLACE COMES IN. -/
theorem rtimes_as {An Ai Ao : Option Addr} {nn cn ni ci no co : Nat} {I : List Pt} {w : World} (hI : Ps w Ai ni I) (hni : ni ≤ 1000000) (hb : ∀ p ∈ I, p.bits.length ≤ 1000000) (hc : ∀ k : Nat, (comesS (I.take k)).length ≤ 1000000) (a : Int) :
    Calls Try.prog 133 #[.agg #[.slice An nn cn, .slice Ai ni ci, .slice Ao no co], .int .i64 a] w fun e w' => e = .returned (.int .i64 ((comesS I).count a : Nat)) ∧ Below w.heap.size w w' := by
  have HB := Lib.hid hb
  have HC := Lib.hid hc
  clear hb hc
  go_enter Try.func133, Try.ntmps133
  go_upto_region 1 with fail
  obtain ⟨w1, e_w1⟩ : ∃ w', w.alloc (.cells #[.slice An nn cn, .slice Ai ni ci, .slice Ao no co] 25) = w' := ⟨_, rfl⟩
  have z0 : Bx w1 w.heap.size [.slice An nn cn, .slice Ai ni ci, .slice Ao no co] := e_w1 ▸ Bx.made_k w rfl #[.slice An nn cn, .slice Ai ni ci, .slice Ao no co] 25
  have BW : Below w.heap.size w w1 := e_w1 ▸ below_lit _ _
  rw [e_w1]
  clear e_w1
  replace hI := hI.on BW
  go_wp2_with fail
  go_loopw [5, 6] (fun c i wr => ∃ j cc : Nat, j ≤ ni ∧ i = .int .i64 j ∧ c = .int .i64 cc ∧ cc = (comesS (I.take j)).count a ∧ Below w1.heap.size w1 wr) (fun _ i _ => ni - (intOf i).toNat)
  case atStart => exact ⟨0, 0, Nat.zero_le _, rfl, rfl, rfl, Below.refl _ _⟩
  case round =>
    obtain ⟨j, cc, hj, rfl, rfl, hcc, BR⟩ := hrel
    have HCC := Lib.hid hcc
    clear hcc
    have z0c1 := (z0.on BR).2 1 _ rfl
    by_cases hlt : j < ni
    · obtain ⟨b0, off, nm, A', m, c', bs, eA, hbw, HX, k1, k2, hi⟩ := (hI.on BR).at0 hlt
      have hjn : (j : Int) < (ni : Int) := by omega
      have hj0 : (0 : Int) ≤ (j : Int) := by omega
      have hm : m ≤ 1000000 := by rw [← hi.1]; exact HB.out _ (List.mem_of_getElem? HX.out)
      have z9 := z0.on BR
      obtain ⟨wo, rfl⟩ : ∃ x, x = wr := ⟨_, rfl⟩
      subst eA
      go_wp2_with fail
      clear z0c1 k1
      go_loopw [5, 7] (fun c i wr => ∃ l cc : Nat, l ≤ m ∧ i = .int .i64 l ∧ c = .int .i64 cc ∧ cc = (comesS (I.take j) ++ bs.take l).count a ∧ Below wo.heap.size wo wr) (fun _ i _ => m - (intOf i).toNat)
      case atStart => exact ⟨0, cc, Nat.zero_le _, rfl, rfl, by rw [HCC.out]; simp, Below.refl _ _⟩
      case round =>
        obtain ⟨l, c2, hl, rfl, rfl, hc2, BS⟩ := hrel
        have HC2 := Lib.hid hc2
        clear hc2
        have z0c1 := (z9.on BS).2 1 _ rfl
        replace k2 := (BS.cell (p := ⟨b0, off + j * 2 + 1, none⟩) hbw).trans k2
        by_cases hlm : l < m
        · obtain ⟨b3, off3, x, eB, HX2, cx⟩ := (hi.on BS).at hlm
          subst eB
          have hlm1 : (l : Int) < (m : Int) := by omega
          have hl0 : (0 : Int) ≤ (l : Int) := by omega
          have HS := Lib.hid (count_snoc (a := a) HX2.out (comesS (I.take j)))
          have hcb : c2 ≤ 2000000 := by
            rw [HC2.out]
            have h1 := List.count_le_length (a := a) (l := comesS (I.take j) ++ bs.take l)
            have h2 := HC.out j
            have h3 := hi.1
            rw [List.length_append, List.length_take] at h1
            omega
          by_cases e : x = a
          · have g := beq_tt e
            have HE : Hid (c2 + 1 = (comesS (I.take j) ++ bs.take (l + 1)).count a) := Lib.hid (by rw [HS.out, if_pos e, HC2.out])
            have he := Lib.hid e
            clear e
            go_wp2_with fail
            go_roundw
            case rel => exact ⟨l + 1, c2 + 1, by omega, by go_num, by go_num, HE.out, BS⟩
            case measure => simp [intOf]; omega
          · have g := beq_ff e
            have HE : Hid (c2 = (comesS (I.take j) ++ bs.take (l + 1)).count a) := Lib.hid (by rw [HS.out, if_neg e, HC2.out]; rfl)
            go_wp2_with fail
            go_roundw
            case rel => exact ⟨l + 1, c2, by omega, by go_num, rfl, HE.out, BS⟩
            case measure => simp [intOf]; omega
        · have HE : Hid (c2 = (comesS (I.take (j + 1))).count a) := Lib.hid (by
            have eb : bs.take l = bs := List.take_of_length_le (by rw [hi.1]; omega)
            rw [comes_take HX.out, HC2.out, eb])
          have hlm1 : ¬ (l : Int) < (m : Int) := by omega
          go_wp2_with fail
          go_roundw
          case rel => exact ⟨j + 1, c2, by omega, by go_num, rfl, HE.out, Below.step BR BS⟩
          case measure => simp [intOf]; omega
    · have HE : Hid (cc = (comesS I).count a) := Lib.hid (by
        have hl := hI.1
        rw [HCC.out, List.take_of_length_le (by omega)])
      have hjn : ¬ (j : Int) < (ni : Int) := by omega
      go_wp2_with fail
      go_ret
      exact ⟨n6ret_int (congrArg _ HE.out), Below.step BW BR⟩
end Go.Proofs.Ytacphhfhahgeaaa
