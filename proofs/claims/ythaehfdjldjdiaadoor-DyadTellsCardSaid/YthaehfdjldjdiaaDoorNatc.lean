
/-
  The walks of nat's Add and Sub.
-/
import Derived.Test.YthaehfdjldjdiaaDoorNatb
import Derived.Test.YthaehfdjldjdiaaDoorMathb
namespace Go.Proofs.YthaehfdjldjdiaaDoor
open Go.RowKit
set_option linter.unusedVariables false

set_option maxHeartbeats 1000000 in
theorem add_any {A1 A2 : Option Addr} {n1 c1 n2 c2 x y : Nat} {w : World} (h1 : Arg w A1 n1 c1 x) (h2 : Arg w A2 n2 c2 y) (s1 : n1 ≤ 1000000) (s2 : n2 ≤ 1000000) :
    Calls Tryd.prog 34 #[.slice A1 n1 c1, .slice A2 n2 c2] w (NatPost w (x + y) (n1 + n2 + 1)) := by
  go_enter Tryd.func34, Tryd.ntmps34
  go_wp2_with fail
  refine (bothN h1 h2).mono ?_
  rintro e w' ⟨m1, m2, rfl, ⟨xs, r1, k1, v1⟩, ⟨ys, r2, k2, v2⟩, hm1, hm2, rfl⟩
  have V1 := Lib.hid v1
  have V2 := Lib.hid v2
  have L1 := Lib.hid r1.len
  have L2 := Lib.hid r2.len
  clear v1 v2 h1 h2
  by_cases hsw : m1 < m2
  · skip
    go_wp2_with (at_make; refine wpList_zeros _ rfl _ _ 23 rfl 61 (.int .u32 0) 4 Tryd.underlying23 u32_info rfl (by omega) _ (m2 + 1) rfl rfl (by omega) (by omega) ?_; intro w1 ho hb1 hz1; rw [U_zeros] at ho)
    have hg := ho.lt
    have R1 := Lib.hid (r2.below hb1)
    have R2 := Lib.hid (r1.below hb1)
    have HO := Lib.hid ho
    clear ho r1 r2
    obtain ⟨g, eg⟩ : ∃ g, g = w.heap.size := ⟨_, rfl⟩
    rw [← eg] at HO hb1 hg R1 R2 ⊢
    have hz2 : w1.heap.size ≤ g + 1 := by omega
    have EG := Lib.hid eg
    clear eg hz1
    go_loopw [6, 28] (fun cv i wr => ∃ (k cy : Nat) (ds : List Nat), k ≤ m2 ∧ i = .int .i64 k ∧ cv = .int .u32 cy ∧ Own wr g 61 (U ds) ∧ AddInv ys xs ds m2 k cy ∧ Below g w1 wr ∧ wr.heap.size = w1.heap.size) (fun _ i _ => m2 - (intOf i).toNat)
    case atStart => exact ⟨0, 0, _, Nat.zero_le _, rfl, rfl, HO.out, AddInv.zero _ _ _, Below.refl _ _, rfl⟩
    case round =>
      obtain ⟨k, cy, ds, hk, rfl, rfl, hod, hinv, hbr, hzr⟩ := hrel
      have HOD := Lib.hid hod
      have HI := Lib.hid hinv
      have HZ := Lib.hid hzr
      have hcy := hinv.low
      clear hod hinv hzr
      by_cases hlt : k < m2
      · obtain ⟨b, off, t, hA, hbb, HX, hl, hcell⟩ := (R1.out.below hbr).look hlt
        subst hA
        obtain ⟨y, ey⟩ : ∃ y, xs.getD k 0 = y := ⟨_, rfl⟩
        have hy : y < 4294967296 := by rw [← ey]; exact R2.out.2.getD k
        have HY := Lib.hid ey
        clear ey
        have HP := Lib.hid (part_as (R2.out.below hbr) (Nat.le_refl _) (by unfold maxLen; omega) y (k : Int) (by omega) (by rw [Int.toNat_natCast]; exact HY))
        obtain ⟨s, es⟩ : ∃ s, s = (t + y + cy) % 4294967296 := ⟨_, rfl⟩
        obtain ⟨c', ec⟩ : ∃ c', c' = (t + y + cy) / 4294967296 := ⟨_, rfl⟩
        have hs : s < 4294967296 := by omega
        have HE := Lib.hid (show t + y + cy = s + 4294967296 * c' by omega)
        clear es ec
        have HS := Lib.hid (add32_any t y cy s c' hl hy hcy hs HE.out wr)
        have hold := HOD.out.cell k
        rw [U_at, List.getElem?_eq_getElem (by have := HI.out.len; omega)] at hold
        obtain ⟨ov, hov⟩ : ∃ ov, wr.cell? ⟨g, k, none⟩ = some ov := ⟨_, hold⟩
        clear hold
        have hfr := HOD.out.free k
        go_wp2_with (first
          | (go_at_call 62; refine (HP.out).mono ?_; rintro e w' ⟨rfl, rfl⟩)
          | (go_at_call 61; refine (HS.out).mono ?_; rintro e w' ⟨rfl, rfl⟩))
        go_roundw
        case rel =>
          refine ⟨k + 1, c', ds.set k s, by omega, by go_num, rfl, ?_, HI.out.step hlt HX.out HY.out hl hy hs HE.out, hbr.setCell (Nat.le_refl _) _, by simp [World.setCell, HZ.out]⟩
          rw [← U_set]
          exact HOD.out.put k _
        case measure => simp [intOf]; omega
      · obtain rfl : k = m2 := by omega
        have hold := HOD.out.cell k
        rw [U_at, List.getElem?_eq_getElem (by have := HI.out.len; omega)] at hold
        obtain ⟨ov, hov⟩ : ∃ ov, wr.cell? ⟨g, k, none⟩ = some ov := ⟨_, hold⟩
        clear hold
        have hfr := HOD.out.free k
        go_wp2_with fail
        have hf := HI.out.last L2.out (by rw [L1.out]; omega)
        have ho2 := HOD.out.put k (.int .u32 (cy : Int))
        rw [U_set] at ho2
        have ha := own_arg ho2 hf.2 (by rw [List.length_set, HI.out.len]) (by omega) (show _ = x + y by rw [hf.1, V1.out, V2.out]; omega)
        refine (cutN ha).mono ?_
        rintro e w' ⟨m, rfl, hr, hm, rfl⟩
        go_wp2_with fail
        go_ret
        exact ⟨_, m, rfl, hr, by omega, EG.out ▸ ((hb1.trans hbr).setCell (Nat.le_refl _) _)⟩
  · skip
    go_wp2_with (at_make; refine wpList_zeros _ rfl _ _ 23 rfl 61 (.int .u32 0) 4 Tryd.underlying23 u32_info rfl (by omega) _ (m1 + 1) rfl rfl (by omega) (by omega) ?_; intro w1 ho hb1 hz1; rw [U_zeros] at ho)
    have hg := ho.lt
    have R1 := Lib.hid (r1.below hb1)
    have R2 := Lib.hid (r2.below hb1)
    have HO := Lib.hid ho
    clear ho r1 r2
    obtain ⟨g, eg⟩ : ∃ g, g = w.heap.size := ⟨_, rfl⟩
    rw [← eg] at HO hb1 hg R1 R2 ⊢
    have hz2 : w1.heap.size ≤ g + 1 := by omega
    have EG := Lib.hid eg
    clear eg hz1
    go_loopw [6, 28] (fun cv i wr => ∃ (k cy : Nat) (ds : List Nat), k ≤ m1 ∧ i = .int .i64 k ∧ cv = .int .u32 cy ∧ Own wr g 61 (U ds) ∧ AddInv xs ys ds m1 k cy ∧ Below g w1 wr ∧ wr.heap.size = w1.heap.size) (fun _ i _ => m1 - (intOf i).toNat)
    case atStart => exact ⟨0, 0, _, Nat.zero_le _, rfl, rfl, HO.out, AddInv.zero _ _ _, Below.refl _ _, rfl⟩
    case round =>
      obtain ⟨k, cy, ds, hk, rfl, rfl, hod, hinv, hbr, hzr⟩ := hrel
      have HOD := Lib.hid hod
      have HI := Lib.hid hinv
      have HZ := Lib.hid hzr
      have hcy := hinv.low
      clear hod hinv hzr
      by_cases hlt : k < m1
      · obtain ⟨b, off, t, hA, hbb, HX, hl, hcell⟩ := (R1.out.below hbr).look hlt
        subst hA
        obtain ⟨y, ey⟩ : ∃ y, ys.getD k 0 = y := ⟨_, rfl⟩
        have hy : y < 4294967296 := by rw [← ey]; exact R2.out.2.getD k
        have HY := Lib.hid ey
        clear ey
        have HP := Lib.hid (part_as (R2.out.below hbr) (Nat.le_refl _) (by unfold maxLen; omega) y (k : Int) (by omega) (by rw [Int.toNat_natCast]; exact HY))
        obtain ⟨s, es⟩ : ∃ s, s = (t + y + cy) % 4294967296 := ⟨_, rfl⟩
        obtain ⟨c', ec⟩ : ∃ c', c' = (t + y + cy) / 4294967296 := ⟨_, rfl⟩
        have hs : s < 4294967296 := by omega
        have HE := Lib.hid (show t + y + cy = s + 4294967296 * c' by omega)
        clear es ec
        have HS := Lib.hid (add32_any t y cy s c' hl hy hcy hs HE.out wr)
        have hold := HOD.out.cell k
        rw [U_at, List.getElem?_eq_getElem (by have := HI.out.len; omega)] at hold
        obtain ⟨ov, hov⟩ : ∃ ov, wr.cell? ⟨g, k, none⟩ = some ov := ⟨_, hold⟩
        clear hold
        have hfr := HOD.out.free k
        go_wp2_with (first
          | (go_at_call 62; refine (HP.out).mono ?_; rintro e w' ⟨rfl, rfl⟩)
          | (go_at_call 61; refine (HS.out).mono ?_; rintro e w' ⟨rfl, rfl⟩))
        go_roundw
        case rel =>
          refine ⟨k + 1, c', ds.set k s, by omega, by go_num, rfl, ?_, HI.out.step hlt HX.out HY.out hl hy hs HE.out, hbr.setCell (Nat.le_refl _) _, by simp [World.setCell, HZ.out]⟩
          rw [← U_set]
          exact HOD.out.put k _
        case measure => simp [intOf]; omega
      · obtain rfl : k = m1 := by omega
        have hold := HOD.out.cell k
        rw [U_at, List.getElem?_eq_getElem (by have := HI.out.len; omega)] at hold
        obtain ⟨ov, hov⟩ : ∃ ov, wr.cell? ⟨g, k, none⟩ = some ov := ⟨_, hold⟩
        clear hold
        have hfr := HOD.out.free k
        go_wp2_with fail
        have hf := HI.out.last L1.out (by rw [L2.out]; omega)
        have ho2 := HOD.out.put k (.int .u32 (cy : Int))
        rw [U_set] at ho2
        have ha := own_arg ho2 hf.2 (by rw [List.length_set, HI.out.len]) (by omega) (show _ = x + y by rw [hf.1, V1.out, V2.out])
        refine (cutN ha).mono ?_
        rintro e w' ⟨m, rfl, hr, hm, rfl⟩
        go_wp2_with fail
        go_ret
        exact ⟨_, m, rfl, hr, by omega, EG.out ▸ ((hb1.trans hbr).setCell (Nat.le_refl _) _)⟩

theorem cmp_world {w w' : World} {d : Nat} (h : w' = w.drewN d) : Below w.heap.size w w' ∧ w'.heap.size = w.heap.size := by
  subst h
  exact ⟨below_drewN (Below.refl _ _) d, rfl⟩
theorem cmpI_neg {x y : Nat} (h : x < y) : cmpI x y < 0 := by rw [cmpI_of_lt h]; omega
theorem cmpI_nn {x y : Nat} (h : y ≤ x) : 0 ≤ cmpI x y := by
  rcases Nat.lt_or_ge y x with h1 | h1
  · rw [cmpI_of_gt h1]; omega
  · rw [cmpI_of_eq (by omega)]; omega

theorem sub_lt {A1 A2 : Option Addr} {n1 c1 n2 c2 x y : Nat} {w : World} (h1 : Arg w A1 n1 c1 x) (h2 : Arg w A2 n2 c2 y) (s1 : n1 ≤ 1000000) (s2 : n2 ≤ 1000000) (hlt : x < y) :
    Calls Tryd.prog 63 #[.slice A1 n1 c1, .slice A2 n2 c2] w (NatErr w 3) := by
  have hs := cmpI_neg hlt
  go_enter Tryd.func63, Tryd.ntmps63
  go_wp2_with fail
  refine (bothN h1 h2).mono ?_
  rintro e w' ⟨m1, m2, rfl, r1, r2, hm1, hm2, rfl⟩
  go_wp2_with fail
  refine (cmp_any (r1.arg (by omega)) (r2.arg (by omega)) (by omega) (by omega)).mono ?_
  rintro e w2 ⟨d, rfl, hw2⟩
  have HW := Lib.hid (cmp_world hw2)
  clear hw2
  go_wp2_with fail
  go_ret2
  exact ⟨rfl, HW.out.1⟩

set_option maxHeartbeats 1000000 in
theorem sub_any {A1 A2 : Option Addr} {n1 c1 n2 c2 x y : Nat} {w : World} (h1 : Arg w A1 n1 c1 x) (h2 : Arg w A2 n2 c2 y) (s1 : n1 ≤ 1000000) (s2 : n2 ≤ 1000000) (hle : y ≤ x) :
    Calls Tryd.prog 63 #[.slice A1 n1 c1, .slice A2 n2 c2] w (NatOk w (x - y) n1) := by
  have hs := cmpI_nn hle
  go_enter Tryd.func63, Tryd.ntmps63
  go_wp2_with fail
  refine (bothN h1 h2).mono ?_
  rintro e w' ⟨m1, m2, rfl, hr1, hr2, hm1, hm2, rfl⟩
  go_wp2_with fail
  refine (cmp_any (hr1.arg (by omega)) (hr2.arg (by omega)) (by omega) (by omega)).mono ?_
  rintro e w2 ⟨d, rfl, hw2⟩
  obtain ⟨hb2, hz2⟩ := cmp_world hw2
  obtain ⟨xs, r1, k1, v1⟩ := hr1.on hb2
  obtain ⟨ys, r2, k2, v2⟩ := hr2.on hb2
  have HW := Lib.hid hw2
  have V1 := Lib.hid v1
  have V2 := Lib.hid v2
  have L1 := Lib.hid r1.len
  have L2 := Lib.hid r2.len
  have HZ2 := Lib.hid hz2
  have HN : Hid (m2 ≤ m1) := by
    show m2 ≤ m1
    rcases Nat.lt_or_ge m1 m2 with hlt | hge
    · have := Canon.shorter k1.1 k2 (by rw [L1.out, L2.out]; exact hlt)
      rw [V1.out, V2.out] at this
      omega
    · exact hge
  clear v1 v2 h1 h2 hw2 hz2 hr1 hr2
  go_wp2_with (at_make; refine wpList_zeros _ rfl _ _ 23 rfl 61 (.int .u32 0) 4 Tryd.underlying23 u32_info rfl (by omega) _ m1 rfl rfl (by omega) (by omega) ?_; intro w1 ho hb1 hz1; rw [U_zeros] at ho)
  have hg := ho.lt
  have R1 := Lib.hid (r1.below hb1)
  have R2 := Lib.hid (r2.below hb1)
  have HO := Lib.hid ho
  clear ho r1 r2
  obtain ⟨g, eg⟩ : ∃ g, g = w2.heap.size := ⟨_, rfl⟩
  rw [← eg] at HO hb1 hg R1 R2 ⊢
  have EG := Lib.hid eg
  clear eg hz1
  go_loopw [7, 25] (fun cv i wr => ∃ (k bw : Nat) (ds : List Nat), k ≤ m1 ∧ i = .int .i64 k ∧ cv = .int .u32 bw ∧ Own wr g 61 (U ds) ∧ SubInv xs ys ds m1 k bw ∧ Below g w1 wr) (fun _ i _ => m1 - (intOf i).toNat)
  case atStart => exact ⟨0, 0, _, Nat.zero_le _, rfl, rfl, HO.out, SubInv.zero _ _ _, Below.refl _ _⟩
  case round =>
    obtain ⟨k, bw, ds, hk, rfl, rfl, hod, hinv, hbr⟩ := hrel
    have HOD := Lib.hid hod
    have HI := Lib.hid hinv
    have hbw := hinv.low
    clear hod hinv
    by_cases hlt : k < m1
    · obtain ⟨b, off, t, hA, hbb, HX, hl, hcell⟩ := (R1.out.below hbr).look hlt
      subst hA
      obtain ⟨y', ey⟩ : ∃ y', ys.getD k 0 = y' := ⟨_, rfl⟩
      have hy : y' < 4294967296 := by rw [← ey]; exact R2.out.2.getD k
      have HY := Lib.hid ey
      clear ey
      have HP := Lib.hid (part_as (R2.out.below hbr) (Nat.le_refl _) (by unfold maxLen; omega) y' (k : Int) (by omega) (by rw [Int.toNat_natCast]; exact HY))
      obtain ⟨d', b', hd', hb', HE⟩ : ∃ d' b' : Nat, d' < 4294967296 ∧ b' < 2 ∧ Hid (t + 4294967296 * b' = y' + bw + d') := by
        rcases Nat.lt_or_ge t (y' + bw) with q | q
        · exact ⟨t + 4294967296 - (y' + bw), 1, by omega, by omega, by show _ = _; omega⟩
        · exact ⟨t - (y' + bw), 0, by omega, by omega, by show _ = _; omega⟩
      have HS := Lib.hid (sub32_any t y' bw d' b' hl hy hbw hd' hb' HE.out wr)
      have hold := HOD.out.cell k
      rw [U_at, List.getElem?_eq_getElem (by have := HI.out.len; omega)] at hold
      obtain ⟨ov, hov⟩ : ∃ ov, wr.cell? ⟨g, k, none⟩ = some ov := ⟨_, hold⟩
      clear hold
      have hfr := HOD.out.free k
      go_wp2_with (first
        | (go_at_call 62; refine (HP.out).mono ?_; rintro e w' ⟨rfl, rfl⟩)
        | (go_at_call 73; refine (HS.out).mono ?_; rintro e w' ⟨rfl, rfl⟩))
      go_roundw
      case rel =>
        refine ⟨k + 1, b', ds.set k d', by omega, by go_num, rfl, ?_, HI.out.step hlt HX.out HY.out hd' hb' HE.out, hbr.setCell (Nat.le_refl _) _⟩
        rw [← U_set]
        exact HOD.out.put k _
      case measure => simp [intOf]; omega
    · obtain rfl : k = m1 := by omega
      go_wp2_with fail
      have hf := HI.out.last L1.out (by rw [L2.out]; exact HN.out) (by rw [V1.out, V2.out]; exact hle)
      rw [V1.out, V2.out] at hf
      have ha := own_arg HOD.out HI.out.dg HI.out.len (by omega) (show _ = x - y by omega)
      refine (cutN ha).mono ?_
      rintro e w' ⟨m, rfl, hr, hm, rfl⟩
      go_wp2_with fail
      go_ret2
      exact ⟨_, m, rfl, hr, by omega, hb2.trans (by rw [← HZ2.out, ← EG.out]; exact hb1.trans hbr)⟩
end Go.Proofs.YthaehfdjldjdiaaDoor
