
/-
  The reference of layer 24: Lex.
-/
import Derived.Test.YtkoacjnffbfgiaaDoorEq
namespace Go.Proofs.YtkoacjnffbfgiaaDoor
open Go.RowKit
set_option linter.unusedVariables false

theorem fst_kind {l : List UInt8} {t : Tk} (h : fstS l = some t) : 1 ≤ t.k ∧ t.k ≤ 4 := by
  cases l with
  | nil => cases h
  | cons c r =>
    rw [fst_cons] at h
    split at h
    · cases h
      constructor <;> simp
    · split at h
      · cases h
        constructor <;> simp
      · cases hb : bitS (c :: r) with
        | some u =>
          rw [hb] at h
          cases h
          unfold bitS at hb
          split at hb
          · cases hb
            constructor <;> simp
          · cases hb
        | none =>
          rw [hb] at h
          have h : nbS (c :: r) = some t := h
          unfold nbS at h
          split at h
          · cases h
            constructor <;> simp
          · cases h
theorem row_empty (w : World) (e : TypeId) (size : Nat) : (w.alloc (.cells #[] e)).ownsRow w.heap.size e size (.slice (some ⟨w.heap.size, 0, none⟩) 0 0) 0 [] :=
  ⟨by simp, .inr ⟨w.heap.size, 0, #[], rfl, Nat.le_refl _, heap_alloc_new w _, Nat.le_refl _, by unfold maxLen; omega, by simp, by simp⟩⟩
/-- append of one element of many cells; of other blocks nothing turns. -/
theorem wpList_pushG {P : Program} (w : World) {ops : Array Oper} {rest : List Oper} {o : Oper} {a : Act} {Q : Exit → Act → World → Prop} (hgd : o.guard = none) (s x : Operand) (t : TypeId)
    (ho : o.op = .call { callee := .builtin .append, args := #[s, x], argTypes := #[t, t] }) {e : TypeId} {size bytes : Nat} (hE : Elm P t e size bytes) (hsz : 0 < size) (hby : bytes ≤ 64)
    (base : Nat) (v : Value) (n : Nat) (xs : List Value) (hs : a.eval s = v) (hown : w.ownsRow base e size v n xs) (us : Array Value) (hu : us.size = size) (h1 : ∀ u ∈ us.toList, u.oneCell' = true) (hx : a.eval x = .slice (some ⟨w.heap.size, 0, none⟩) 1 1)
    (hn : n + 1 ≤ 1000000) (hbase : base ≤ w.heap.size)
    (h : ∀ v' w', w'.ownsRow base e size v' (n + 1) (xs ++ us.toList) → Below base w w' → (w.alloc (.cells us e)).grownBy w' v.ownBlock → wpList P ops Q rest (a.put o.dst v') w') : wpList P ops Q (o :: rest) a (w.alloc (.cells us e)) := by
  have b1 : Below w.heap.size w (w.alloc (.cells us e)) := (Below.refl _ _).alloc (Nat.le_refl _) _
  have hr1 := row_on hown b1
  refine wpList_app (A := some ⟨w.heap.size, 0, none⟩) (m := 1) (c := 1) hgd s x t ho hE hsz hby base v n xs hs hr1 us.toList hx (fun e => by cases e) (by rw [Nat.one_mul, ← hu]; simp) ?_ h1 hn (Nat.le_trans hbase b1.size) ?_
  · intro ad had j u' hj
    cases had
    rw [add_plain, Nat.zero_add, cell_of_row _ w.heap.size j us e (0, 0) (heap_alloc_new w _)]
    simpa using hj
  · intro v' w' hr hg
    exact h v' w' hr ((b1.mono hbase).grown hg (Nat.le_trans hbase b1.size) fun k hk => (hr1.lt k hk).1) hg
theorem Own.grown_ {w w' : World} {p : Nat} {t : TypeId} {cs : List Value} {ob : Option Nat} (h : Own w p t cs) (hg : w.grownBy w' ob) (hne : some p ≠ ob) : Own w' p t cs := (hg.block p h.lt hne).trans h
set_option maxHeartbeats 8000000 in
set_option maxRecDepth 10000 in
/-- THE REFERENCE'S LEX. -/
theorem rlex_as (s : ByteArray) (hs : s.size ≤ 800000) (R : Except Nat (List Tk)) (hR : lexA 1 0 s.data.toList = R) (w : World) :
    Calls Tryd.prog 9 #[.string s] w fun e w' => LexP w R e w' := by
  have HR := Lib.hid hR
  clear hR
  go_enter Tryd.func9, Tryd.ntmps9
  go_upto_region 2 with fail
  obtain ⟨w1, e1⟩ : ∃ w', w.alloc (.cells #[] 31) = w' := ⟨_, rfl⟩
  have hrow1 : w1.ownsRow w.heap.size 31 4 (.slice (some ⟨w.heap.size, 0, none⟩) 0 0) 0 [] := e1 ▸ row_empty w _ 4
  have BW1 : Below w.heap.size w w1 := e1 ▸ (Below.refl _ _).alloc (Nat.le_refl _) _
  rw [e1]
  clear e1
  go_wp2_with fail
  go_loopw [5, 6, 7] (fun v5 v6 v7 wr => ∃ (j line : Nat) (acc : List Tk), j ≤ s.size ∧ v7 = .int .i64 j ∧ v6 = .int .i64 line ∧ line ≤ j + 1 ∧ acc.length ≤ j ∧ wr.ownsRow w.heap.size 31 4 v5 acc.length (acc.flatMap tkC) ∧ Hid (appS acc (lexA line 0 (s.data.toList.drop j)) = R) ∧ Below w.heap.size w wr) (fun _ _ i _ => s.size - (intOf i).toNat)
  case atStart => exact ⟨0, 1, [], Nat.zero_le _, rfl, rfl, by omega, Nat.le_refl _, hrow1, Lib.hid (by rw [app_nil]; exact HR.out), BW1⟩
  case round =>
    obtain ⟨j, line, acc, hj, rfl, rfl, hln, hac, hrow, HI, BW⟩ := hrel
    clear hrow1 BW1
    have hbw : w.heap.size ≤ wr.heap.size := BW.size
    by_cases hlt : j < s.size
    case neg =>
      have hdr : s.data.toList.drop j = [] := List.drop_of_length_le (by rw [size_list]; omega)
      have HN := Lib.hid (by
        have := HI.out
        rw [hdr, lex_nil_] at this
        exact this)
      have hge : ¬ (j : Int) < (s.size : Int) := by omega
      clear hdr
      go_wp2_with fail
      refine bodyPost_ret (v := .tuple #[u5, .int .i64 0, .int .i64 0]) (by simp [results, Tryd.results9, go_sem]) rfl ?_
      obtain ⟨A, c, e1, e2, e3⟩ := row_ts hrow
      refine ⟨BW, ?_⟩
      rw [← HN.out]
      refine ⟨A, _, c, by rw [e1], ?_, e2⟩
      rw [List.append_nil]
      exact e3
    case pos =>
      have HB := Lib.hid (drop_at hlt)
      have hj0 : (0 : Int) ≤ (j : Int) := by omega
      have hj1 : (j : Int) < (s.size : Int) := by omega
      have hjl : (line : Int) ≤ 900000 := by omega
      obtain ⟨x1, h1⟩ : ∃ x, ((s[j].toNat : Int) == 32) = x := ⟨_, rfl⟩
      obtain ⟨x2, h2⟩ : ∃ x, ((s[j].toNat : Int) == 9) = x := ⟨_, rfl⟩
      obtain ⟨x3, h3⟩ : ∃ x, ((s[j].toNat : Int) == 10) = x := ⟨_, rfl⟩
      have HS : Hid (by8 spS s[j] = (x1 || (x2 || x3))) := Lib.hid (by unfold by8 spS; rw [h1, h2, h3])
      have H10 : Hid (s[j] = 10 ↔ x3 = true) := Lib.hid (by
        rw [← h3, beq_iff_eq]
        constructor
        · intro e
          rw [e]
          rfl
        · intro e
          exact UInt8.toNat_inj.1 (by show s[j].toNat = 10; omega))
      have HX12 : Hid (x1 = true ∨ x2 = true → x3 = false) := Lib.hid (by
        intro h
        rw [← h3, beq_eq_false_iff_ne]
        rw [← h1, ← h2, beq_iff_eq, beq_iff_eq] at h
        omega)
      cases x1
      case true =>
        have HN := Lib.hid (by
          have := HI.out
          rw [HB.out, lex_space (by rw [HS.out]; rfl), ln_ne (fun e => by have := H10.out.1 e; have h := HX12.out (.inl rfl); rw [h] at this; cases this)] at this
          exact this)
        go_wp2_with fail
        go_roundw
        case rel => exact ⟨j + 1, line, acc, by omega, by go_num, rfl, by omega, by omega, hrow, HN, BW⟩
        case measure => simp [intOf]; omega
      cases x2
      case true =>
        have HN := Lib.hid (by
          have := HI.out
          rw [HB.out, lex_space (by rw [HS.out]; rfl), ln_ne (fun e => by have := H10.out.1 e; have h := HX12.out (.inr rfl); rw [h] at this; cases this)] at this
          exact this)
        go_wp2_with fail
        go_roundw
        case rel => exact ⟨j + 1, line, acc, by omega, by go_num, rfl, by omega, by omega, hrow, HN, BW⟩
        case measure => simp [intOf]; omega
      cases x3
      case true =>
        obtain ⟨l2, hl2⟩ : ∃ l2, line + 1 = l2 := ⟨_, rfl⟩
        have hl3 : (line : Int) + 1 = (l2 : Int) := by omega
        have HN := Lib.hid (by
          have := HI.out
          rw [HB.out, lex_space (by rw [HS.out]; rfl)] at this
          unfold lnS at this
          rw [if_pos (H10.out.2 rfl), hl2] at this
          exact this)
        have hl4 : l2 ≤ j + 1 + 1 := by omega
        clear hl2
        go_wp2_with fail
        go_roundw
        case rel => exact ⟨j + 1, l2, acc, by omega, by go_num, rfl, hl4, by omega, hrow, HN, BW⟩
        case measure => simp [intOf]; omega
      have HSF : Hid (by8 spS s[j] = false) := Lib.hid (by rw [HS.out]; rfl)
      have HNE : Hid (s[j] ≠ 10) := Lib.hid (fun e => by have := H10.out.1 e; cases this)
      clear HX12 HS
      obtain ⟨j1, hj1'⟩ : ∃ j1, j + 1 = j1 := ⟨_, rfl⟩
      have hj1I : (j : Int) + 1 = (j1 : Int) := by omega
      obtain ⟨xp, hxp⟩ : ∃ x, Lib.hasPrefix (s[j] :: s.data.toList.drop (j + 1)) [47, 47] = x := ⟨_, rfl⟩
      have HXP := Lib.hid hxp
      obtain ⟨x5, h5⟩ : ∃ x, ((s[j].toNat : Int) == 47) = x := ⟨_, rfl⟩
      have HP0 : Hid (¬ j1 < s.size → xp = false) := Lib.hid (by
        intro h
        rw [← hxp, show s.data.toList.drop (j + 1) = [] from List.drop_of_length_le (by rw [size_list]; omega)]
        simp [Lib.hasPrefix, List.isPrefixOf])
      have HP1 : Hid (∀ h : j1 < s.size, xp = (x5 && ((s[j1].toNat : Int) == 47))) := Lib.hid (by
        intro h
        have e47 : ∀ c : UInt8, ((47 : UInt8) == c) = ((c.toNat : Int) == 47) := fun c => by
          rw [Bool.eq_iff_iff, beq_iff_eq, beq_iff_eq]
          constructor
          · intro e
            rw [← e]
            rfl
          · intro e
            exact UInt8.toNat_inj.1 (by show 47 = c.toNat; omega)
        rw [← hxp, ← h5, hj1', drop_at h, ← e47, ← e47]
        simp [Lib.hasPrefix, List.isPrefixOf])
      have HJ1 := Lib.hid hj1'
      clear hxp hj1'
      go_upto_region 10 with fail
      go_cut [51] (fun v wx => v = .bool xp ∧ wx = wr)
      case first =>
        by_cases hlt1 : j1 < s.size
        · have hj10 : (0 : Int) ≤ (j1 : Int) := by omega
          have hj11 : (j1 : Int) < (s.size : Int) := by omega
          obtain ⟨x6, h6⟩ : ∃ x, ((s[j1].toNat : Int) == 47) = x := ⟨_, rfl⟩
          have HE : Hid (xp = (x5 && x6)) := Lib.hid (by rw [HP1.out hlt1, h6])
          cases x5 <;> cases x6
          all_goals
            go_wp2_with fail
            go_meet
            exact ⟨by rw [HE.out]; rfl, by first | rfl | trivial⟩
        · have hj11 : ¬ (j1 : Int) < (s.size : Int) := by omega
          have HE := Lib.hid (HP0.out hlt1)
          go_wp2_with fail
          go_meet
          exact ⟨by rw [HE.out], by first | rfl | trivial⟩
      case rest =>
        obtain ⟨rfl, rfl⟩ := hcut
        clear HP0 HP1 h5
        cases xp
        case true =>
          apply_assumption
          go_step
          obtain ⟨l, hl⟩ : ∃ l, s.data.toList.drop j = l := ⟨_, rfl⟩
          have HLL : Hid (l = s[j] :: s.data.toList.drop (j + 1)) := Lib.hid (by rw [← hl, HB.out])
          obtain ⟨n, hn⟩ : ∃ n, runS nlS l = n := ⟨_, rfl⟩
          have hln1 : l.length = s.size - j := by rw [← hl, List.length_drop, size_list]
          have hnl : n ≤ l.length := by rw [← hn]; exact run_le
          have HNALL : Hid ((l.take n).all (by8 nlS) = true) := Lib.hid (by rw [← hn]; exact run_all)
          have hnp : 0 < n := by
            rw [← hn, HLL.out, run_cons, if_pos]
            · omega
            · unfold by8 nlS
              rw [bne_iff_ne]
              intro e
              exact HNE.out (UInt8.toNat_inj.1 (by show s[j].toNat = 10; omega))
          have HN := Lib.hid (by
            have h := HI.out
            rw [hl, HLL.out, lex_note HSF.out HXP.out, ln_ne HNE.out, ← HLL.out, hn] at h
            have e : ∀ x ∈ (s.data.toList.drop (j + 1)).take (n - 1), x ≠ 10 := by
              intro x hx
              have h2 := HNALL.out
              rw [List.all_eq_true] at h2
              have hx2 : x ∈ l.take n := by
                rw [HLL.out, show n = (n - 1) + 1 by omega, List.take_succ_cons]
                exact List.mem_cons_of_mem _ hx
              have h3 := h2 x hx2
              intro e
              subst e
              exact absurd h3 (by decide)
            rw [skip_drop e, List.drop_drop, show j + 1 + (n - 1) = j + n by omega] at h
            exact h)
          have HLE := Lib.hid hl
          have HN2 := Lib.hid hn
          obtain ⟨m, hm⟩ : ∃ m, j + n = m := ⟨_, rfl⟩
          have hms : m ≤ s.size := by omega
          rw [hm] at HN
          have HM := Lib.hid hm
          have hjm : j < m := by omega
          clear hl hn hln1 hnl hnp hm
          obtain ⟨wo, rfl⟩ : ∃ z, z = wc := ⟨_, rfl⟩
          go_wp2_with fail
          go_loopw [7] (fun v7 wr => ∃ q : Nat, j ≤ q ∧ q ≤ m ∧ v7 = .int .i64 q ∧ Below wo.heap.size wo wr) (fun v _ => s.size - (intOf v).toNat)
          case atStart => exact ⟨j, Nat.le_refl _, by omega, rfl, Below.refl _ _⟩
          case round =>
            obtain ⟨q, hjq, hqm, rfl, BL⟩ := hrel
            by_cases hqe : q < m
            · have hqs : q < s.size := by omega
              have hq0 : (0 : Int) ≤ (q : Int) := by omega
              have hq1 : (q : Int) < (s.size : Int) := by omega
              have hnl : ((s[q].toNat : Int) != 10) = true := by
                have h := HNALL.out
                rw [List.all_eq_true] at h
                have h2 := h s[q] (List.mem_of_getElem? (i := q - j) (by
                  rw [List.getElem?_take, if_pos (by have := HM.out; omega), ← HLE.out, List.getElem?_drop, show j + (q - j) = q by omega]
                  exact at_list hqs))
                exact h2
              go_wp2_with fail
              go_roundw
              case rel => exact ⟨q + 1, by omega, by omega, by go_num, BL⟩
              case measure => simp [intOf]; omega
            · obtain rfl : q = m := by omega
              have hrowF := row_on hrow BL
              have BWF := Below.step BW BL
              by_cases hqs : q < s.size
              · have hq0 : (0 : Int) ≤ (q : Int) := by omega
                have hq1 : (q : Int) < (s.size : Int) := by omega
                have hnl : ((s[q].toNat : Int) != 10) = false := by
                  have h := run_next (f := nlS) (l := l) (c := s[q]) (by
                    rw [HN2.out, ← HLE.out, List.getElem?_drop, HM.out]
                    exact at_list hqs)
                  exact h
                go_wp2_with fail
                go_roundw
                case rel => exact ⟨q, line, acc, hms, rfl, rfl, by omega, by omega, hrowF, HN, BWF⟩
                case measure => simp [intOf]; omega
              · have hq1 : ¬ (q : Int) < (s.size : Int) := by omega
                go_wp2_with fail
                go_roundw
                case rel => exact ⟨q, line, acc, hms, rfl, rfl, by omega, by omega, hrowF, HN, BWF⟩
                case measure => simp [intOf]; omega
        case false =>
          apply_assumption
          go_step
          obtain ⟨o, ho⟩ : ∃ o, fstS (s.data.toList.drop j) = o := ⟨_, rfl⟩
          have HO := Lib.hid ho
          have HO2 : Hid (fstS (s[j] :: s.data.toList.drop (j + 1)) = o) := Lib.hid (by rw [← HB.out]; exact ho)
          clear ho
          go_wp2_with fail
          refine (one_as s j hlt (by omega) o HO.out _).mono ?_
          rintro en5 w5 ⟨rfl, b⟩
          replace hrow := row_on hrow b
          replace BW := Below.step BW b
          clear b
          cases o with
          | none =>
            have HN := Lib.hid (by
              have := HI.out
              rw [HB.out, lex_bad HSF.out HXP.out HO2.out, ln_ne HNE.out] at this
              exact this)
            dsimp only [onV]
            go_upto_region 14 with fail
            obtain ⟨w6, e6, ZU, b6, sw6⟩ := mk1o w5 [.int .i64 0, .string ⟨#[]⟩, .int .i64 0, .int .i64 0] 31
            rw [e6]
            have z0 := ZU.cell 0
            simp only [List.getElem?_cons_zero] at z0
            clear e6 sw6
            have BW6 := Below.step BW b6
            go_wp2_with fail
            refine bodyPost_ret (v := .tuple #[.slice none 0 0, .int .i64 (line : Int), .int .i64 2]) (by simp [results, Tryd.results9, go_sem]) rfl ?_
            rw [← HN.out]
            exact ⟨BW6, rfl⟩
          | some u =>
            have HN := Lib.hid (by
              have := HI.out
              rw [HB.out, lex_tok HO2.out] at this
              exact this)
            obtain ⟨hq1, hq2, hq3, hq4⟩ := fst_is HO.out
            obtain ⟨hk1, hk2⟩ := fst_kind HO.out
            obtain ⟨x, hx⟩ : ∃ x : ByteArray, (⟨u.t.toArray⟩ : ByteArray) = x := ⟨_, rfl⟩
            have hxs : x.size = u.t.length := by rw [← hx]; rfl
            have hxl : x.size ≤ s.size - j := by rw [hxs]; rw [List.length_drop, size_list] at hq3; exact hq3
            have HX : Hid (⟨u.t.toArray⟩ = x) := Lib.hid hx
            obtain ⟨e3, he3⟩ : ∃ e3, j + x.size = e3 := ⟨_, rfl⟩
            have HN2 : Hid (appS (acc ++ [u.at line]) (lexA line 0 (s.data.toList.drop e3)) = R) := Lib.hid (by
              rw [← app_map, ← he3]
              have h := HN.out
              have e : ∀ y ∈ (s.data.toList.drop (j + 1)).take (u.t.length - 1), y ≠ 10 := by
                intro y hy
                refine hq4 y ?_
                rw [hq1, HB.out, show u.t.length = (u.t.length - 1) + 1 by omega, List.take_succ_cons]
                exact List.mem_cons_of_mem _ hy
              rw [skip_drop e, List.drop_drop, show j + 1 + (u.t.length - 1) = j + u.t.length by omega] at h
              rw [hxs]
              exact h)
            have hsum : (j : Int) + (x.size : Int) = (e3 : Int) := by omega
            have he2 : e3 ≤ s.size := by omega
            have hje : j < e3 := by omega
            have hk0 : ((u.k : Int) == 0) = false := by rw [beq_eq_false_iff_ne]; omega
            have hk3 : ¬ u.k = 0 := by omega
            dsimp only [onV, tkA]
            rw [hx]
            clear hq1 hq2 hq3 hq4 hx hxs HN he3 hk1 hk2 hxl
            have hrow0 := hrow
            have hbw0 := BW.size
            go_upto_region 14 with fail
            obtain ⟨w6, e6, ZU, b6, sw6⟩ := mk1o w5 [.int .i64 (u.k : Int), .string x, .int .i64 (u.v : Int), .int .i64 (u.l : Int)] 31
            rw [e6]
            clear e6
            obtain ⟨zu0, zg0, zu1, zg1, zu2, zg2, zu3, zg3⟩ := ZU.y8
            obtain ⟨p, hp⟩ : ∃ p, w5.heap.size = p := ⟨_, rfl⟩
            have HP5 := Lib.hid hp
            rw [hp] at ZU zu0 zg0 zu1 zg1 zu2 zg2 zu3 zg3 ⊢
            go_upto_region 17 with fail
            obtain ⟨w7, e7⟩ : ∃ w', w6.setCell ⟨p, 3, none⟩ (.int .i64 (line : Int)) = w' := ⟨_, rfl⟩
            have ZV : Own w7 p 31 [.int .i64 (u.k : Int), .string x, .int .i64 (u.v : Int), .int .i64 (line : Int)] := e7 ▸ ZU.put 3 _
            have b7 : Below w5.heap.size w5 w7 := e7 ▸ b6.setCell (p := ⟨p, 3, none⟩) (Nat.le_of_eq hp) _
            rw [e7]
            have hrow7 := row_on hrow0 b7
            have BW7 := Below.step BW b7
            have hb7 := Nat.le_trans hbw0 b7.size
            have hpw : p < w7.heap.size := ZV.lt
            clear hrow BW b6 b7 e7 ZU zu0 zg0 zu1 zg1 zu2 zg2 zu3 zg3 hp sw6
            obtain ⟨zu0, zg0, zu1, zg1, zu2, zg2, zu3, zg3⟩ := ZV.y8
            have hacc : acc.length + 1 ≤ 1000000 := by omega
            go_upto_region 18 with (at_builtin; refine wpList_pushG w7 rfl _ _ 27 rfl elm_rtok (by omega) (by omega) w.heap.size u5 acc.length (acc.flatMap tkC) rfl hrow7 #[.int .i64 (u.k : Int), .string x, .int .i64 (u.v : Int), .int .i64 (line : Int)] rfl (by intro q hq; simp at hq; rcases hq with rfl | rfl | rfl | rfl <;> rfl) rfl hacc hb7 ?_; intro v' w8 hr8 hb8 hG8)
            have HROW : Hid (w8.ownsRow w.heap.size 31 4 v' (acc ++ [u.at line]).length ((acc ++ [u.at line]).flatMap tkC)) := Lib.hid (by
              have e4 : tkC (u.at line) = [.int .i64 (u.k : Int), .string x, .int .i64 (u.v : Int), .int .i64 (line : Int)] := by
                rw [← HX.out]
                rfl
              rw [List.flatMap_append, List.length_append, List.length_singleton, List.flatMap_singleton, e4]
              exact hr8)
            have ZF : Own w8 p 31 [.int .i64 (u.k : Int), .string x, .int .i64 (u.v : Int), .int .i64 (line : Int)] :=
              (ZV.below ((Below.refl _ _).alloc (Nat.le_refl _) _ : Below w7.heap.size w7 _) ZV.lt).grown_ hG8 (fun e => by
                have := (hrow0.lt p e.symm).2
                have := HP5.out
                omega)
            have BW8 := BW7.trans hb8
            have hl8 : (acc ++ [u.at line]).length ≤ e3 := by rw [List.length_append, List.length_singleton]; omega
            have HL8 := Lib.hid hl8
            clear zu0 zg0 zu1 zg1 zu2 zg2 zu3 zg3 ZV hr8 hl8 hb8 hrow7 hrow0 HX hG8 hpw HP5
            obtain ⟨zu0, zg0, zu1, zg1, zu2, zg2, zu3, zg3⟩ := ZF.y8
            go_wp2_with fail
            go_roundw
            case rel => exact ⟨e3, line, acc ++ [u.at line], he2, rfl, rfl, by omega, HL8.out, HROW.out, HN2, BW8⟩
            case measure => simp [intOf]; omega
end Go.Proofs.YtkoacjnffbfgiaaDoor
