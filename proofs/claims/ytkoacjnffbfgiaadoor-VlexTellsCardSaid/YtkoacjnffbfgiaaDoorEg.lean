
/-
  vlex: Lex.
-/
import Derived.Test.YtkoacjnffbfgiaaDoorEf
namespace Go.Proofs.YtkoacjnffbfgiaaDoor
open Go.RowKit
set_option linter.unusedVariables false

set_option maxHeartbeats 4000000 in
set_option maxRecDepth 10000 in
/-- LEX. -/
theorem lex_as (s : ByteArray) (hs : s.size ≤ 900000) (R : Except Nat (List Tk)) (hR : lexA 1 0 s.data.toList = R) (w : World) :
    Calls Tryd.prog 8 #[.string s] w fun e w' => LexP w R e w' := by
  have HR := Lib.hid hR
  clear hR
  go_enter Tryd.func8, Tryd.ntmps8
  go_wp2_with fail
  go_loopw [5, 6, 7, 13] (fun v5 v6 v7 v13 wr => ∃ (j line en : Nat) (acc : List Tk), j ≤ s.size ∧ v13 = .int .i64 j ∧ v6 = .int .i64 line ∧ v7 = .int .i64 en ∧ en ≤ s.size ∧ line ≤ j + 1 ∧ acc.length ≤ j ∧ wr.ownsRow w.heap.size 32 4 v5 acc.length (acc.flatMap tkC) ∧ Hid (appS acc (lexA line (en - j) (s.data.toList.drop j)) = R) ∧ Below w.heap.size w wr) (fun _ _ _ i _ => s.size - (intOf i).toNat)
  case atStart => exact ⟨0, 1, 0, [], Nat.zero_le _, rfl, rfl, rfl, Nat.zero_le _, by omega, Nat.le_refl _, World.ownsRow_nil w _ _ _, Lib.hid (by rw [app_nil]; exact HR.out), Below.refl _ _⟩
  case round =>
    obtain ⟨j, line, en, acc, hj, rfl, rfl, rfl, hen, hln, hac, hrow, HI, BW⟩ := hrel
    have hbw : w.heap.size ≤ wr.heap.size := BW.size
    by_cases hlt : j < s.size
    · have HB := Lib.hid (drop_at hlt)
      have hj0 : (0 : Int) ≤ (j : Int) := by omega
      have hj1 : (j : Int) < (s.size : Int) := by omega
      have hj2 : (j : Int) ≤ (s.size : Int) := by omega
      obtain ⟨l2, hl2⟩ : ∃ l2, lnS line s[j] = l2 := ⟨_, rfl⟩
      have HL2 := Lib.hid hl2
      obtain ⟨x1, h1⟩ : ∃ x, ((s[j].toNat : Int) == 10) = x := ⟨_, rfl⟩
      have hl3 : l2 ≤ j + 2 := by rw [← hl2]; unfold lnS; split <;> omega
      have hvl : Hid (((line : Int) + 1 = (l2 : Int) ∧ x1 = true) ∨ (line = l2 ∧ x1 = false)) := Lib.hid (by
        rw [← hl2]
        unfold lnS
        cases x1 with
        | true =>
          have : s[j] = 10 := UInt8.toNat_inj.1 (by show s[j].toNat = 10; have := eq_of_beq h1; omega)
          rw [if_pos this]
          exact .inl ⟨by omega, rfl⟩
        | false =>
          have : s[j] ≠ 10 := fun e => by
            rw [e] at h1
            exact absurd h1 (by decide)
          rw [if_neg this]
          exact .inr ⟨rfl, rfl⟩)
      clear hl2
      rcases hvl.out with ⟨hv, hx⟩ | ⟨hv, hx⟩
      all_goals
        subst hx
        first | (have hv2 := hv.symm; clear hv; subst hv2) | skip
        clear hvl
        obtain ⟨x2, h2⟩ : ∃ x, decide ((j : Int) < (en : Int)) = x := ⟨_, rfl⟩
        cases x2
        case true =>
          have hlt2 : j < en := by have := of_decide_eq_true h2; omega
          have HN := Lib.hid (by
            have := HI.out
            rw [HB.out, show en - j = (en - (j + 1)) + 1 by omega, lex_skip_, HL2.out] at this
            exact this)
          have hlt3 : ¬ en ≤ j := by omega
          go_wp2_with fail
          go_roundw
          case rel => exact ⟨j + 1, _, en, acc, by omega, by go_num, rfl, rfl, hen, by omega, by omega, hrow, HN, BW⟩
          case measure => simp [intOf]; omega
        case false =>
          have hge : ¬ (j : Int) < (en : Int) := of_decide_eq_false h2
          have hge2 : ¬ j < en := by omega
          have hge3 : en ≤ j := by omega
          have hsk : Hid (en - j = 0) := Lib.hid (by omega)
          obtain ⟨x3, h3⟩ : ∃ x, spS (s[j].toNat : Int) = x := ⟨_, rfl⟩
          have H3 : Hid (by8 spS s[j] = x3) := Lib.hid h3
          have H3' := Lib.hid h3
          clear h3
          go_wp2_with fail
          refine (isSpace_as _ x3 H3'.out _).mono ?_
          rintro en3 w3 ⟨rfl, b⟩
          replace hrow := row_on hrow b
          replace BW := Below.step BW b
          clear b
          cases x3
          case true =>
            have HN := Lib.hid (by
              have := HI.out
              rw [HB.out, hsk.out, lex_space H3.out, HL2.out] at this
              exact this)
            have hz : en - (j + 1) = 0 := by omega
            have HZ := Lib.hid hz
            clear hz
            go_wp2_with fail
            go_roundw
            case rel => exact ⟨j + 1, _, en, acc, by omega, by go_num, rfl, rfl, hen, by omega, by omega, hrow, Lib.hid (by rw [HZ.out]; exact HN.out), BW⟩
            case measure => simp [intOf]; omega
          case false =>
            obtain ⟨d, hd⟩ : ∃ d : ByteArray, s.extract j s.size = d := ⟨_, rfl⟩
            have HD : Hid (d.data.toList = s[j] :: s.data.toList.drop (j + 1)) := Lib.hid (by rw [← hd, tail_list, HB.out])
            have hds : d.size = s.size - j := by rw [← size_list, ← hd, tail_list, List.length_drop, size_list]
            obtain ⟨x4, h4⟩ : ∃ x, Lib.hasPrefix d.data.toList [47, 47] = x := ⟨_, rfl⟩
            have H4 : Hid (Lib.hasPrefix (s[j] :: s.data.toList.drop (j + 1)) [47, 47] = x4) := Lib.hid (by rw [← HD.out]; exact h4)
            have h4 : Lib.hasPrefix d.data.toList ({ data := #[47, 47] } : ByteArray).data.toList = x4 := h4
            have HDE := Lib.hid hd
            clear hd
            go_wp2_with fail
            rw [HDE.out]
            refine (Tryd.strings_HasPrefix d _ _).mono ?_
            rintro en4 w4 ⟨rfl, rfl⟩
            rw [h4]
            clear h4
            cases x4
            case true =>
              obtain ⟨n, hn⟩ : ∃ n, runS nlS d.data.toList = n := ⟨_, rfl⟩
              have hn1 : n ≤ d.size := by rw [← hn, ← size_list]; exact run_le
              have hsum : (j : Int) + (n : Int) = ((j + n : Nat) : Int) := by omega
              have HN := Lib.hid (by
                have := HI.out
                rw [HB.out, hsk.out, lex_note H3.out H4.out, ← HD.out, hn, HL2.out] at this
                exact this)
              have HR2 := Lib.hid hn
              have hz : Hid (j + n - (j + 1) = n - 1) := Lib.hid (by omega)
              have he2 : j + n ≤ s.size := by omega
              clear hn
              obtain ⟨e3, he3⟩ : ∃ e3, j + n = e3 := ⟨_, rfl⟩
              rw [he3] at hsum he2 hz
              have HE3 := Lib.hid he3
              clear he3
              go_wp2_with fail
              rw [HDE.out]
              refine (runs_line d n HR2.out (by omega) _).mono ?_
              rintro en5 w5 ⟨rfl, b⟩
              replace hrow := row_on hrow b
              replace BW := Below.step BW b
              clear b
              go_wp2_with fail
              go_roundw
              case rel => exact ⟨j + 1, _, e3, acc, by omega, by go_num, rfl, rfl, he2, by omega, by omega, hrow, Lib.hid (by rw [hz.out]; exact HN.out), BW⟩
              case measure => simp [intOf]; omega
            case false =>
              obtain ⟨o, ho⟩ : ∃ o, fstS d.data.toList = o := ⟨_, rfl⟩
              have HO := Lib.hid ho
              clear ho
              go_wp2_with fail
              rw [HDE.out]
              refine (first_as d (by omega) (by omega) o HO.out _).mono ?_
              rintro en5 w5 ⟨rfl, b⟩
              replace hrow := row_on hrow b
              replace BW := Below.step BW b
              clear b
              cases o with
              | none =>
                have HN := Lib.hid (by
                  have := HI.out
                  rw [HB.out, hsk.out, lex_bad H3.out H4.out (by rw [← HD.out]; exact HO.out), HL2.out] at this
                  exact this)
                dsimp only [resV]
                go_wp2_with fail
                refine bodyPost_ret (v := .tuple #[.slice none 0 0, .int .i64 (l2 : Int), .int .i64 2]) (by simp [results, Tryd.results8, go_sem]) rfl ?_
                rw [← HN.out]
                exact ⟨BW.alloc BW.size _, rfl⟩
              | some u =>
                have HN := Lib.hid (by
                  have := HI.out
                  rw [HB.out, hsk.out, lex_tok (by rw [← HD.out]; exact HO.out)] at this
                  exact this)
                obtain ⟨hq1, hq2, hq3, hq4⟩ := fst_is HO.out
                obtain ⟨x, hx⟩ : ∃ x : ByteArray, (⟨u.t.toArray⟩ : ByteArray) = x := ⟨_, rfl⟩
                have hxs : x.size = u.t.length := by rw [← hx]; rfl
                have hxl : x.size ≤ d.size := by rw [hxs, ← size_list]; exact hq3
                have HX : Hid (⟨u.t.toArray⟩ = x) := Lib.hid hx
                have HN2 : Hid (appS (acc ++ [u.at l2]) (lexA l2 (x.size - 1) (s.data.toList.drop (j + 1))) = R) := Lib.hid (by
                  rw [← app_map, hxs]
                  have h10 := (fst_head (by rw [← HD.out]; exact HO.out)).1
                  have e1 := HL2.out
                  rw [ln_ne h10] at e1
                  rw [← e1]
                  exact HN.out)
                have hx0 : 0 < x.size := by omega
                obtain ⟨e3, he3⟩ : ∃ e3, j + x.size = e3 := ⟨_, rfl⟩
                have hsum : (j : Int) + (x.size : Int) = (e3 : Int) := by omega
                have he2 : e3 ≤ s.size := by omega
                have hz : Hid (e3 - (j + 1) = x.size - 1) := Lib.hid (by omega)
                dsimp only [resV, tkA]
                rw [hx]
                clear hq1 hq2 hq3 hq4 hx hxs HN he3
                go_upto_region 12 with fail
                obtain ⟨w6, e6, ZU, b6, sw6⟩ := mk1o w5 [.int .i64 (u.k : Int), .string x, .int .i64 (u.v : Int), .int .i64 (u.l : Int)] 32
                rw [e6]
                clear e6
                have hrow0 := hrow
                have hbw0 := BW.size
                replace hrow := row_on hrow b6
                have BW6 := Below.step BW b6
                obtain ⟨zu0, zg0, zu1, zg1, zu2, zg2, zu3, zg3⟩ := ZU.y8
                obtain ⟨p, hp⟩ : ∃ p, w5.heap.size = p := ⟨_, rfl⟩
                rw [hp] at ZU zu0 zg0 zu1 zg1 zu2 zg2 zu3 zg3 ⊢
                go_upto_region 15 with fail
                obtain ⟨w7, e7⟩ : ∃ w', w6.setCell ⟨p, 3, none⟩ (.int .i64 (l2 : Int)) = w' := ⟨_, rfl⟩
                have ZV : Own w7 p 32 [.int .i64 (u.k : Int), .string x, .int .i64 (u.v : Int), .int .i64 (l2 : Int)] := e7 ▸ ZU.put 3 _
                have b7 : Below w5.heap.size w5 w7 := e7 ▸ b6.setCell (p := ⟨p, 3, none⟩) (Nat.le_of_eq hp) _
                rw [e7]
                have hrow7 := row_on hrow0 b7
                have BW7 := Below.step BW b7
                have hb7 := Nat.le_trans hbw0 b7.size
                clear hrow BW BW6 b6 b7 e7 ZU zu0 zg0 zu1 zg1 zu2 zg2 zu3 zg3 hp sw6
                obtain ⟨zu0, zg0, zu1, zg1, zu2, zg2, zu3, zg3⟩ := ZV.y8
                have hacc : acc.length + 1 ≤ 1000000 := by omega
                go_upto_region 16 with fail
                go_upto_region 17 with (at_builtin; refine wpList_pushT w7 rfl _ _ 23 rfl elm_tok (by omega) (by omega) w.heap.size u5 acc.length (acc.flatMap tkC) rfl hrow7 #[.int .i64 (u.k : Int), .string x, .int .i64 (u.v : Int), .int .i64 (l2 : Int)] rfl (by intro q hq; simp at hq; rcases hq with rfl | rfl | rfl | rfl <;> rfl) rfl hacc hb7 ?_; intro v' w8 hr8 hb8)
                have HROW : Hid (w8.ownsRow w.heap.size 32 4 v' (acc ++ [u.at l2]).length ((acc ++ [u.at l2]).flatMap tkC)) := Lib.hid (by
                  have e4 : tkC (u.at l2) = [.int .i64 (u.k : Int), .string x, .int .i64 (u.v : Int), .int .i64 (l2 : Int)] := by
                    rw [← HX.out]
                    rfl
                  rw [List.flatMap_append, List.length_append, List.length_singleton, List.flatMap_singleton, e4]
                  exact hr8)
                have BW8 := BW7.trans hb8
                have hl8 : (acc ++ [u.at l2]).length ≤ j + 1 := by rw [List.length_append, List.length_singleton]; omega
                have HL8 := Lib.hid hl8
                clear hr8 hl8 hb8 hrow7 hrow0 hx0 hxl HX
                go_wp2_with fail
                go_roundw
                case rel => exact ⟨j + 1, _, e3, acc ++ [u.at l2], by omega, by go_num, rfl, rfl, he2, by omega, HL8.out, HROW.out, Lib.hid (by rw [hz.out]; exact HN2.out), BW8⟩
                case measure => simp [intOf]; omega
    · have hdr : s.data.toList.drop j = [] := List.drop_of_length_le (by rw [size_list]; omega)
      have HN := Lib.hid (by
        have := HI.out
        rw [hdr, lex_nil_] at this
        exact this)
      have hge : ¬ (j : Int) < (s.size : Int) := by omega
      clear hdr
      go_wp2_with fail
      refine bodyPost_ret (v := .tuple #[u5, .int .i64 0, .int .i64 0]) (by simp [results, Tryd.results8, go_sem]) rfl ?_
      obtain ⟨A, c, e1, e2, e3⟩ := row_ts hrow
      refine ⟨BW, ?_⟩
      rw [← HN.out]
      refine ⟨A, _, c, by rw [e1], ?_, e2⟩
      rw [List.append_nil]
      exact e3
end Go.Proofs.YtkoacjnffbfgiaaDoor
