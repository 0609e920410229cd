
/-
  dyad's Add, whole.
-/
import Derived.Test.YthaehfdjldjdiaaDoorDdsame
import Derived.Test.YthaehfdjldjdiaaDoorDdge
import Derived.Test.YthaehfdjldjdiaaDoorDdlt
import Derived.Test.YthaehfdjldjdiaaDoorDdover
namespace Go.Proofs.YthaehfdjldjdiaaDoor
open Go.RowKit
set_option linter.unusedVariables false

set_option maxHeartbeats 4000000 in
theorem add_err {A1 A2 : Option Addr} {n1 c1 n2 c2 x y : Nat} {na nb : Bool} {ea eb : Int} {w : World} (h1 : Arg w A1 n1 c1 x) (h2 : Arg w A2 n2 c2 y) (s1 : n1 ≤ 30000) (s2 : n2 ≤ 30000) (hT : Tab w) (hm : D.may ⟨na, x, ea⟩ = false ∨ D.may ⟨nb, y, eb⟩ = false) :
    Calls Tryd.prog 10 #[.agg #[.bool na, .slice A1 n1 c1, .int .i64 ea], .agg #[.bool nb, .slice A2 n2 c2, .int .i64 eb]] w (DPost w (addS ⟨na, x, ea⟩ ⟨nb, y, eb⟩)) := by
  rw [addS_err hm]
  have HBP := Lib.hid (fun W (hW : Below w.heap.size w W) => both_err (h1.on hW) (h2.on hW) s1 s2 hm)
  clear hm
  go_enter Tryd.func10, Tryd.ntmps10
  go_wp2_with fail
  obtain ⟨W, hW, z0, z1, z2, BW, sW⟩ := frame3 w 25 25 25 na A1 n1 c1 ea nb A2 n2 c2 eb false none 0 0 0
  rw [hW]
  clear hW
  refine (HBP.out W BW).mono ?_
  rintro en w1 ⟨rfl, b⟩
  have z0 := z0.on b
  have z1 := z1.on b
  have z2 := z2.on b
  have BW := Below.step BW b
  clear b HBP
  obtain ⟨p0, p1, p2, g0, g1, g2, _⟩ := z0.cells
  obtain ⟨q0, q1, q2, i0, i1, i2, _⟩ := z1.cells
  obtain ⟨o0, o1, o2, j0, j1, j2, _⟩ := z2.cells
  go_wp2_with fail
  refine bodyPost_ret (v := .tuple #[.agg #[.bool false, .slice none 0 0, .int .i64 0], .int .i64 3]) (by simp [results, Tryd.results10, go_sem, o0, o1, o2]) rfl ?_
  exact ⟨none, 0, rfl, Res.none_ _, below_put3 (below_put3 (below_put3 BW (by omega) _ _ _) (by omega) _ _ _) (by omega) _ _ _⟩

/-- dyad.Add tells the sum, or why there is none. -/
theorem dadd_any {A1 A2 : Option Addr} {n1 c1 n2 c2 x y : Nat} {na nb : Bool} {ea eb : Int} {w : World} (h1 : Arg w A1 n1 c1 x) (h2 : Arg w A2 n2 c2 y) (s1 : n1 ≤ 30000) (s2 : n2 ≤ 30000) (hT : Tab w) :
    Calls Tryd.prog 10 #[.agg #[.bool na, .slice A1 n1 c1, .int .i64 ea], .agg #[.bool nb, .slice A2 n2 c2, .int .i64 eb]] w (DPost w (addS ⟨na, x, ea⟩ ⟨nb, y, eb⟩)) := by
  by_cases ma : D.may ⟨na, x, ea⟩ = true
  · by_cases mb : D.may ⟨nb, y, eb⟩ = true
    · obtain ⟨⟨an, ax, ae⟩, hpa⟩ : ∃ p, D.pl ⟨na, x, ea⟩ = p := ⟨_, rfl⟩
      obtain ⟨⟨bn, bx, be⟩, hpb⟩ : ∃ p, D.pl ⟨nb, y, eb⟩ = p := ⟨_, rfl⟩
      obtain ⟨m, hm⟩ : ∃ m, min ae be = m := ⟨_, rfl⟩
      obtain ⟨i, hi⟩ := Int.eq_ofNat_of_zero_le (show 0 ≤ ae - m by omega)
      obtain ⟨j, hj⟩ := Int.eq_ofNat_of_zero_le (show 0 ≤ be - m by omega)
      by_cases f1 : blen ax + i ≤ 16384
      · by_cases f2 : blen bx + j ≤ 16384
        · by_cases hn : an = bn
          · exact add_same h1 h2 s1 s2 hT ma mb hpa hpb hm hi hj f1 f2 hn
          · have hn : (an == bn) = false := by simpa using hn
            rcases Nat.lt_or_ge (ax * 2 ^ i) (bx * 2 ^ j) with hle | hle
            · exact add_lt h1 h2 s1 s2 hT ma mb hpa hpb hm hi hj f1 f2 hn hle
            · exact add_ge h1 h2 s1 s2 hT ma mb hpa hpb hm hi hj f1 f2 hn hle
        · exact add_over_ h1 h2 s1 s2 hT ma mb hpa hpb hm hi hj (.inr (by omega))
      · exact add_over_ h1 h2 s1 s2 hT ma mb hpa hpb hm hi hj (.inl (by omega))
    · exact add_err h1 h2 s1 s2 hT (.inr (by simpa using mb))
  · exact add_err h1 h2 s1 s2 hT (.inl (by simpa using ma))
end Go.Proofs.YthaehfdjldjdiaaDoor
