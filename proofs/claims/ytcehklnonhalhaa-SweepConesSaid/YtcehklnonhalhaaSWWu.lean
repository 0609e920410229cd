/-
  What the proofs of SweepTells and SweepCones and SweepSame need: Wu Wv.
-/
import Derived.Test.YtcehklnonhalhaaSWWk
import Derived.Test.YtcehklnonhalhaaSWLexG
import Derived.Test.YtcehklnonhalhaaSWWl
import Derived.Deep.AppendLies
namespace Go.Proofs.Ytcehklnonhalhaa
open Go.RowKit
set_option linter.unusedVariables false
set_option maxRecDepth 4000

/-- one more at the end, at the operation. -/
theorem wp_pushE {P : Program} {w : World} {o : Oper} {a : Act} {K : Act → World → Prop} {Q : Exit → Act → World → Prop} (s x : Operand) (t : TypeId)
    (ho : o.op = .call { callee := .builtin .append, args := #[s, x], argTypes := #[t, t] }) {e : TypeId} {size bytes : Nat} (hE : Elm P t e size bytes) (hsz : 0 < size) (hby : bytes ≤ 64)
    (base : Nat) (v : Value) (n : Nat) (xs : List Value) (hs : a.eval s = v) (hown : w.ownsRow base e size v n xs) (g : Nat) (news : List Value) (hx : a.eval x = .slice (some ⟨g, 0, none⟩) 1 1) (hz : Bx w g news)
    (hl : news.length = size) (h1 : ∀ u ∈ news, u.oneCell' = true) (hn : n + 1 ≤ 1000000) (hbase : base ≤ w.heap.size)
    (h : ∀ v' w', w'.ownsRow base e size v' (n + 1) (xs ++ news) → w.grownBy w' v.ownBlock → K (a.put o.dst v') w') : o.wp P a w K Q := by
  obtain ⟨ht, i, z, hi, hz0, h3, h4, h5, _⟩ := hE
  refine wp_append_lies w s x t ho base e i z size bytes ht hi hz0 h3 h4 h5 hsz v n xs hs hown ⟨g, 0, none⟩ 1 1 news hx (by omega) (fun j u hu => ?_) h1 (by omega) (by unfold maxLen; omega) ?_ hbase _ rfl fun g' cap w' r1 r2 _ _ => h _ w' r1 r2
  · rw [add_plain, Nat.zero_add]
    exact hz.2 j u hu
  · have : (n + 1) * bytes ≤ 1000000 * 64 := Nat.mul_le_mul hn hby
    omega
/-- ports that were told. -/
structure Qb (w : World) (base : Nat) (R : List Rp) (I : List Pt) (P : List Int) (j : Nat) : Prop where
  len : R.length = j
  at_ : ∀ (k : Nat) (r : Rp) (p : Pt), R[k]? = some r → I[k]? = some p → r.name = p.name ∧ w.ownsRow base 3 1 (.slice r.A r.m r.c) r.m ((p.bits.map (sA P)).flatMap inC)
theorem Qb.on {w w' : World} {base : Nat} {R : List Rp} {I : List Pt} {P : List Int} {j : Nat} (h : Qb w base R I P j) (hb : Below w.heap.size w w') : Qb w' base R I P j := ⟨h.len, fun k r p h1 h2 => ⟨(h.at_ k r p h1 h2).1, row_on (h.at_ k r p h1 h2).2 hb⟩⟩
theorem Qb.tk {w w' : World} {base : Nat} {R : List Rp} {I : List Pt} {P : List Int} {j : Nat} (h : Qb w base R I P j) (hb : TK 3 w w') : Qb w' base R I P j := ⟨h.len, fun k r p h1 h2 => ⟨(h.at_ k r p h1 h2).1, row_tk (h.at_ k r p h1 h2).2 hb⟩⟩
theorem Qb.snoc {w : World} {base : Nat} {R : List Rp} {I : List Pt} {P : List Int} {j : Nat} (h : Qb w base R I P j) {p : Pt} (hp : I[j]? = some p) {A : Option Addr} {m c : Nat} (hr : w.ownsRow base 3 1 (.slice A m c) m ((p.bits.map (sA P)).flatMap inC)) : Qb w base (R ++ [⟨p.name, A, m, c⟩]) I P (j + 1) := ⟨by rw [List.length_append, h.len]; rfl, fun k r q h1 h2 => by
  by_cases hk : k < R.length
  · rw [List.getElem?_append_left hk] at h1
    exact h.at_ k r q h1 h2
  · have hl := (List.getElem?_eq_some_iff.1 h1).1
    rw [List.length_append, List.length_singleton] at hl
    have e : k = R.length := by omega
    subst e
    rw [List.getElem?_append_right (Nat.le_refl _), Nat.sub_self] at h1
    injection h1 with h1
    subst h1
    rw [h.len, hp] at h2
    injection h2 with h2
    subst h2
    exact ⟨rfl, hr⟩⟩
theorem Qb.ps {w : World} {base : Nat} {R : List Rp} {I : List Pt} {P : List Int} {n : Nat} (h : Qb w base R I P n) (hn : I.length = n) {A : Option Addr} (hR : PsR w A n R) (hA : ∀ b off, A = some ⟨b, off, none⟩ → base ≤ b ∧ off = 0) : PsH base w A n (I.map (outF P)) := ⟨by rw [List.length_map]; exact hn, fun k p hp => by
  rw [List.getElem?_map] at hp
  cases hq : I[k]? with
  | none => rw [hq] at hp; cases hp
  | some q =>
    rw [hq] at hp
    injection hp with hp
    subst hp
    have hk := (List.getElem?_eq_some_iff.1 hq).1
    obtain ⟨r, hr⟩ : ∃ r, R[k]? = some r := ⟨_, List.getElem?_eq_getElem (by rw [h.len]; omega)⟩
    obtain ⟨e, hrow⟩ := h.at_ k r q hr hq
    obtain ⟨b, off, h1, h2, h3, h4⟩ := hR.2 k r hr
    obtain ⟨A', c', e2, sw, hA2, hi⟩ := row_is hrow
    injection e2 with e3 e4 e5
    subst e3
    refine ⟨b, off, r.A, r.m, r.c, h1, (hA b off h1).1, h2, by rw [h3, e]; rfl, h4, ⟨by rw [e5]; exact sw.1, fun k => by rw [e5]; exact sw.2.2 k⟩, by rw [e5]; exact sw.2.1, hi.isB fun b off e _ => (hA2 b off e).1⟩⟩
set_option maxRecDepth 20000 in
set_option maxHeartbeats 8000000 in
theorem rports11_as {w : World} {A Ap : Option Addr} {n c nn cp : Nat} {I : List Pt} {P : List Int} (hI : Ps w A n I) (hn : n ≤ 66) (hb : ∀ p ∈ I, p.bits.length ≤ 4000) (hP : Is w Ap nn P) (hpl : ∀ p ∈ I, Plc nn p.bits) :
    Calls Try.prog 55 #[.slice A n c, .slice Ap nn cp] w fun en w' => ∃ Bo do', en = .returned (.slice Bo n do') ∧ PsH w.heap.size w' Bo n (I.map (outF P)) ∧ Sw Bo n do' ∧ Below w.heap.size w w' := by
  have HB4 := Lib.hid hb
  have HPL := Lib.hid hpl
  have HLI := Lib.hid hI.1
  have HLP := Lib.hid hP.1
  clear hb hpl
  go_enter Try.func55, Try.ntmps55
  go_upto_region 2 with fail
  have hrow : (w.alloc (.cells #[] 41)).ownsRow w.heap.size 41 2 (.slice (some ⟨w.heap.size, 0, none⟩) 0 0) 0 [] := World.ownsRow_lit w #[] 0 (Nat.le_refl _) (by unfold maxLen; omega) rfl
  have BW : Below w.heap.size w (w.alloc (.cells #[] 41)) := below_lit _ _
  obtain ⟨w6, e_w6⟩ : ∃ w', w.alloc (.cells #[] 41) = w' := ⟨_, rfl⟩
  rw [e_w6] at hrow BW ⊢
  obtain ⟨s6, hs6⟩ : ∃ s6, w.heap.size = s6 := ⟨_, rfl⟩
  have HS6 : Hid (w.heap.size = s6) := Lib.hid hs6
  have HROW0 : Hid (w6.ownsRow w.heap.size 41 2 (.slice (some ⟨s6, 0, none⟩) 0 0) 0 (([] : List Rp).flatMap ptC)) := Lib.hid (by rw [← HS6.out]; exact hrow)
  have HQ0 : Hid (Qb w6 w.heap.size [] I P 0) := Lib.hid ⟨rfl, fun k r p h => by cases h⟩
  have HB0 := Lib.hid BW
  have e0 : Value.slice (some ⟨w.heap.size, 0, none⟩) 0 0 = Value.slice (some ⟨s6, 0, none⟩) 0 0 := by rw [hs6]
  rw [e0]
  clear e0 e_w6 hrow BW hs6
  go_wp2_with fail
  go_loopw [5, 6] (fun tv iv wr => ∃ (vt : Value) (j : Nat) (R : List Rp), vt = tv ∧ j ≤ n ∧ iv = .int .i64 j ∧ Hid (wr.ownsRow w.heap.size 41 2 vt j (R.flatMap ptC)) ∧ Hid (Qb wr w.heap.size R I P j) ∧ Hid (Below w.heap.size w wr)) (fun _ iv _ => n - (intOf iv).toNat)
  case atStart => exact ⟨_, 0, [], rfl, Nat.zero_le _, rfl, HROW0, HQ0, HB0⟩
  case round =>
    clear HROW0 HQ0 HB0
    obtain ⟨vt, j, R, rfl, hj, rfl, HROW, HQ, HB⟩ := hrel
    by_cases hlt : j < n
    · have hjn : (j : Int) < (n : Int) := by omega
      have hj0 : (0 : Int) ≤ (j : Int) := by omega
      obtain ⟨⟨nm, bs⟩, hp⟩ := look_ex HLI.out hlt
      obtain ⟨b0, off, A', m', c', eA, h2, k1, k2, h5, h6, hbs⟩ := (hI.on HB.out).2 j ⟨nm, bs⟩ hp
      dsimp only at k1 k2 hbs
      subst eA
      have HP := Lib.hid hp
      have hm4 : m' ≤ 4000 := by rw [← hbs.1]; exact HB4.out _ (List.mem_of_getElem? hp)
      have HBP : Hid (Plc nn bs) := Lib.hid (HPL.out _ (List.mem_of_getElem? hp))
      clear hp
      go_upto_region 6 with fail
      have bl : Below wr.heap.size wr (wr.alloc (.cells #[.string nm, .slice none 0 0] 41)) := below_lit _ _
      have ZP : Own (wr.alloc (.cells #[.string nm, .slice none 0 0] 41)) wr.heap.size 41 [.string nm, .slice none 0 0] := Own.made wr 41 [.string nm, .slice none 0 0]
      obtain ⟨wx, e_wx⟩ : ∃ w', wr.alloc (.cells #[.string nm, .slice none 0 0] 41) = w' := ⟨_, rfl⟩
      rw [e_wx] at bl ZP ⊢
      obtain ⟨sx, hsx⟩ : ∃ sx, wr.heap.size = sx := ⟨_, rfl⟩
      have hsr : wr.heap.size ≤ sx := Nat.le_of_eq hsx
      rw [hsx] at ZP ⊢
      have HBS := Lib.hid hbs
      have K2 : CAt wr b0 (off + j * 2 + 1) (.slice A' m' c') := ⟨h2, k2⟩
      have HZP := Lib.hid ZP
      have HRB : Hid (wx.ownsRow wr.heap.size 3 1 (.slice none 0 0) 0 (((bs.take 0).map (sA P)).flatMap inC)) := Lib.hid (World.ownsRow_nil wx _ _ _)
      have HBX := Lib.hid bl
      clear e_wx bl ZP hsx k1 k2 h2 hbs h6
      obtain ⟨wo, rfl⟩ : ∃ x, x = wr := ⟨_, rfl⟩
      go_wp2_with fail
      go_loopw [8] (fun kv wt => ∃ (k : Nat) (vb : Value), k ≤ m' ∧ kv = .int .i64 k ∧ Hid (Own wt sx 41 [.string nm, vb]) ∧ Hid (wt.ownsRow wo.heap.size 3 1 vb k (((bs.take k).map (sA P)).flatMap inC)) ∧ Hid (Below wo.heap.size wo wt)) (fun kv _ => m' - (intOf kv).toNat)
      case atStart => exact ⟨0, _, Nat.zero_le _, rfl, HZP, HRB, HBX⟩
      case round =>
        clear HZP HRB HBX
        obtain ⟨k, vb, hk, rfl, HZP, HRB, HBX⟩ := hrel
        have BW := Lib.hid (HB.out.trans (HBX.out.mono HB.out.size))
        have p2 := (K2.on HBX.out).c
        by_cases hkm : k < m'
        · have hk1 : (k : Int) < (m' : Int) := by omega
          have hk0 : (0 : Int) ≤ (k : Int) := by omega
          obtain ⟨b3, o3, eY, iY⟩ := (HBS.out.on HBX.out).iat hkm
          subst eY
          have hkl : k < bs.length := by rw [HBS.out.1]; exact hkm
          obtain ⟨m, hmy, hmn⟩ := HBP.out (bs.getD k 0) (igetD_mem hkl)
          have hy : bs[k]? = some (m : Int) := by rw [← hmy, List.getD_eq_getElem?_getD, List.getElem?_eq_getElem hkl]; rfl
          have HSN : Hid (((bs.take (k + 1)).map (sA P)).flatMap inC = ((bs.take k).map (sA P)).flatMap inC ++ [.int .i64 (sA P (m : Int))]) := Lib.hid (by
            rw [List.take_add_one, hy, List.map_append, List.flatMap_append]
            rfl)
          rw [hmy] at iY
          obtain ⟨bp, op, eP, iP⟩ := (hP.on BW.out).iat hmn
          subst eP
          rw [← sA_nat] at iP
          have hm0 : (0 : Int) ≤ (m : Int) := by omega
          have hm1 : (m : Int) < (nn : Int) := by omega
          obtain ⟨y, hyv⟩ : ∃ y, sA P (m : Int) = y := ⟨_, rfl⟩
          rw [hyv] at iP HSN
          have C2 := K2.on HBX.out
          have Z := HZP.out
          have RB := HRB.out
          have BX := HBX.out
          clear hyv hmy hy BW
          go_upto_region 9 with fail
          clear p2
          refine LexG.region_planU LexG.below_ok [13] [0, 1, 2, 3, 4, 5, 6, 7, 8, 9, 10, 11, 12, 13, 14, 15, 16] (by kernel_rfl) (by kernel_rfl) (by kernel_rfl) (by kernel_rfl) (by kernel_rfl) ?_
          dsimp only [LexG.pick, LexG.nth]
          have bd : Below wr.heap.size wr wr.drew := (Below.refl _ _).drew
          replace iY := iY.on bd
          replace iP := iP.on bd
          replace C2 := C2.on bd
          replace Z := Z.below bd Z.lt
          replace RB := row_on RB bd
          replace BX := Below.step BX bd
          obtain ⟨w4, e4⟩ : ∃ w', wr.drew = w' := ⟨_, rfl⟩
          rw [e4] at iY iP C2 Z RB BX ⊢
          clear e4 bd HZP HRB HBX
          have lf0 := fun s : LexG.Wd (fun w w' => Below w.heap.size w w') w4 => (show s.w.cell? ⟨sx, 1, none⟩ = some vb from (Z.below s.rel Z.lt).cell 1)
          have lf1 := fun s : LexG.Wd (fun w w' => Below w.heap.size w w') w4 => (C2.on s.rel).c
          have lf2 := fun s : LexG.Wd (fun w w' => Below w.heap.size w w') w4 => (iY.on s.rel).2
          have lf3 := fun s : LexG.Wd (fun w w' => Below w.heap.size w w') w4 => (iP.on s.rel).2
          refine LexG.lexU_plain 13 (by kernel_rfl) (by kernel_rfl) ?_
          dsimp only [List.take, List.drop]
          repeat go_big_quiet_step (fail)
          refine wpQuiet_nil ?_
          clear lf0 lf1 lf2 lf3
          refine LexG.lexU_call (by kernel_rfl) (by kernel_rfl) (fun K hK => ?_)
          go_simp
          refine hK _ _ (below_lit _ _) ?_
          clear hK K
          have b5 : Below w4.heap.size w4 (w4.alloc (.cells #[.int .i64 y] 3)) := below_lit _ _
          have Z5 : Bx (w4.alloc (.cells #[.int .i64 y] 3)) w4.heap.size [.int .i64 y] := Bx.made_k w4 rfl #[.int .i64 y] 3
          obtain ⟨w5, e5⟩ : ∃ w', w4.alloc (.cells #[.int .i64 y] 3) = w' := ⟨_, rfl⟩
          obtain ⟨s5, hs5⟩ : ∃ s5, w4.heap.size = s5 := ⟨_, rfl⟩
          rw [e5] at b5 Z5 ⊢
          replace Z := Z.below b5 Z.lt
          replace RB := row_on RB b5
          replace BX := Below.step BX b5
          rw [hs5] at Z5 ⊢
          clear e5 hs5 b5 iY iP C2
          have hlx : wo.heap.size ≤ w5.heap.size := BX.size
          refine LexG.lexU_last (by kernel_rfl) (by kernel_rfl) (by kernel_rfl) (fun K hK => ?_)
          refine wp_pushE _ _ 39 rfl elm_int (by omega) (by omega) wo.heap.size vb k _ rfl RB s5 [.int .i64 y] rfl Z5 rfl (fun u hu => by rw [List.mem_singleton.1 hu]; rfl) (by omega) hlx (fun v6 w6 R6 G6 => ?_)
          refine hK _ _ ?_
          dsimp only [Act.put]
          simp only [List.setIfInBounds_toArray, List.set_cons_succ, List.set_cons_zero]
          clear hK K
          have Z6 := own_row Z RB G6 (by decide)
          have B6 := BX.grown G6 BX.size (fun k hk => (RB.lt k hk).1)
          rw [← HSN.out] at R6
          obtain ⟨A6, c6, rfl, sw6, _⟩ := row_at R6
          have c1 : _ = some vb := Z6.cell 1
          have f1 := Z6.free 1
          clear Z RB G6 BX Z5
          refine LexG.lexU_plain 1 (by kernel_rfl) (by kernel_rfl) ?_
          dsimp only [List.take, List.drop]
          repeat go_big_quiet_step (fail)
          refine wpQuiet_nil ?_
          refine LexG.lexU_last (by kernel_rfl) (by kernel_rfl) (by kernel_rfl) (fun K hK => ?_)
          go_simp
          refine hK _ _ ?_
          clear hK K c1 f1
          refine LexG.lexU_nil ?_
          dsimp only [NoPanic]
          have Z7 := Z6.put 1 (.slice A6 (k + 1) c6)
          have R7 := row_other R6 Z6 (by decide) 1 (.slice A6 (k + 1) c6)
          have B7 := B6.setCell (p := ⟨sx, 1, none⟩) hsr (.slice A6 (k + 1) c6)
          obtain ⟨w7, e7⟩ : ∃ w', w6.setCell ⟨sx, 1, none⟩ (.slice A6 (k + 1) c6) = w' := ⟨_, rfl⟩
          rw [e7] at Z7 R7 B7 ⊢
          have HZ7 := Lib.hid Z7
          have HR7 := Lib.hid R7
          have HB7 := Lib.hid B7
          clear e7 Z7 R7 B7 Z6 R6 B6
          go_wp2_with fail
          go_roundw
          case rel => exact ⟨k + 1, _, by omega, by go_num, HZ7, HR7, HB7⟩
          case measure => simp [intOf]; omega
        · obtain rfl : k = m' := by omega
          have hk1 : ¬ (k : Int) < (k : Int) := by omega
          have c0 : _ = some (Value.string nm) := HZP.out.cell 0
          have c1 : _ = some vb := HZP.out.cell 1
          have RB := HRB.out
          rw [List.take_of_length_le (by rw [HBS.out.1]; exact Nat.le_refl _)] at RB
          obtain ⟨A5, c5, rfl, sw5, _⟩ := row_at RB
          have RO := row_on HROW.out HBX.out
          have QO := HQ.out.on HBX.out
          have BW := HB.out.trans (HBX.out.mono HB.out.size)
          have hlw : wo.heap.size ≤ wr.heap.size := HBX.out.size
          have hlo : w.heap.size ≤ wo.heap.size := HB.out.size
          go_upto_region 10 with fail
          obtain ⟨w8, e8⟩ : ∃ w', wr.alloc (.cells #[.string nm, .slice A5 k c5] 41) = w' := ⟨_, rfl⟩
          have b8 : Below wr.heap.size wr w8 := e8 ▸ below_lit _ _
          have Z8 : Bx w8 wr.heap.size [.string nm, .slice A5 k c5] := e8 ▸ Bx.made_k wr rfl #[.string nm, .slice A5 k c5] 41
          have R8 := row_on RO b8
          have Q8 := QO.on b8
          have RB8 := row_low (row_on RB b8) hlo
          have B8 := Below.step BW b8
          have hb8 := B8.size
          have cn8 : ∀ ad : Addr, (some ⟨wr.heap.size, 0, none⟩ : Option Addr) = some ad → ∀ (j : Nat) (u : Value), (ptC ⟨nm, A5, k, c5⟩)[j]? = some u → w8.cell? (ad.add j) = some u := fun ad e j u hu => by
            cases e
            rw [add_plain, Nat.zero_add]
            exact Z8.2 j u hu
          have on8 : ∀ u ∈ ptC ⟨nm, A5, k, c5⟩, u.oneCell' = true := fun u hu => by
            simp [ptC] at hu
            rcases hu with rfl | rfl <;> rfl
          have hn8 : j + 1 ≤ 1000000 := by omega
          clear HZP HRB HBX HROW HQ HB
          go_wp2_with (at_builtin; refine wpList_app (A := some ⟨wr.heap.size, 0, none⟩) (m := 1) (c := 1) rfl _ _ 23 rfl elm_port (by omega) (by omega) w.heap.size _ _ _ rfl R8 (ptC ⟨nm, A5, k, c5⟩) rfl (fun e => by cases e) rfl cn8 on8 hn8 hb8 ?_; intro v9 w9 R9 G9)
          have T9 : TK 3 w8 w9 := TK.row R8 G9 (by decide)
          have HQ9 : Hid (Qb w9 w.heap.size (R ++ [⟨nm, A5, k, c5⟩]) I P (j + 1)) := Lib.hid ((Q8.snoc (p := ⟨nm, bs⟩) HP.out RB8).tk T9)
          have HR9 : Hid (w9.ownsRow w.heap.size 41 2 v9 (j + 1) ((R ++ ([⟨nm, A5, k, c5⟩] : List Rp)).flatMap ptC)) := Lib.hid (by
            rw [List.flatMap_append]
            simpa using R9)
          have HB9 := Lib.hid (B8.grown G9 B8.size (fun k hk => (R8.lt k hk).1))
          clear R9 G9 T9 R8 Q8 RB8 B8 cn8 on8 hb8 Z8 b8 e8 RO QO RB BW
          go_roundw
          case rel => exact ⟨v9, j + 1, _, rfl, by omega, by go_num, HR9, HQ9, HB9⟩
          case measure => simp [intOf]; omega
    · obtain rfl : j = n := by omega
      have hjn : ¬ (j : Int) < (j : Int) := by omega
      obtain ⟨A6, c6, rfl, sw6, hA6, hps⟩ := row_ps HROW.out
      have HA6 := Lib.hid hA6
      clear hA6
      go_wp2_with fail
      go_ret
      exact ⟨A6, c6, rfl, HQ.out.ps HLI.out hps HA6.out, sw6, HB.out⟩
end Go.Proofs.Ytcehklnonhalhaa
namespace Go.Proofs.Ytcehklnonhalhaa
open Go.RowKit
set_option linter.unusedVariables false
set_option maxRecDepth 4000

/-- the new place of each, as the reference tells it. -/
def byR (B : List Bool) (j : Nat) : List Int := (List.range j).map fun i => (((kpQ B i).length : Nat) : Int)
theorem byR_len (B : List Bool) (j : Nat) : (byR B j).length = j := by simp [byR]
theorem byR_s (B : List Bool) (j : Nat) : byR B (j + 1) = byR B j ++ [(((kpQ B j).length : Nat) : Int)] := by unfold byR; rw [List.range_succ, List.map_append]; rfl
theorem kpQ_t {B : List Bool} {j : Nat} (h : B.getD j false = true) : (kpQ B (j + 1)).length = (kpQ B j).length + 1 := by rw [kpQ_s, if_pos h, List.length_append]; rfl
theorem kpQ_f {B : List Bool} {j : Nat} (h : B.getD j false = false) : (kpQ B (j + 1)).length = (kpQ B j).length := by rw [kpQ_s, if_neg (by rw [h]; decide), List.append_nil]
theorem sA_by {N : List Nd} {B : List Bool} {n q : Nat} (hq : q ∈ kpQ B n) : sA (byR B n) (q : Int) = sA (plS N B n n) (q : Int) := by
  obtain ⟨h1, h2⟩ := kpQ_mem.1 hq
  rw [sA_nat, sA_nat]
  unfold byR plS
  rw [List.getD_eq_getElem?_getD, List.getElem?_map, List.getElem?_range h1, List.getD_eq_getElem?_getD, List.getElem?_map, List.getElem?_range h1]
  show (((kpQ B q).length : Nat) : Int) = if q < n then plF N B q else 0
  rw [if_pos h1]
  unfold plF
  rw [if_pos h2, kpL_Q, List.length_map]
theorem mv_m0 {P : List Int} {x : Nd} (h : manyS x.k = 0) : mvN P x = x := by
  unfold manyS at h
  unfold mvN
  split at h
  · cases h
  · split at h
    · cases h
    · split at h
      · cases h
      · rename_i h1 h2 h3
        rw [if_neg h1, if_neg h2, if_neg h3]
theorem mv_m1 {P : List Int} {x : Nd} (h : manyS x.k = 1) : mvN P x = ⟨x.k, sA P x.a, x.b, x.c⟩ := by
  unfold manyS at h
  unfold mvN
  split at h
  · rename_i h1
    rw [if_pos h1]
  · split at h
    · cases h
    · split at h <;> cases h
theorem mv_m2 {P : List Int} {x : Nd} (h : manyS x.k = 2) : mvN P x = ⟨x.k, sA P x.a, sA P x.b, x.c⟩ := by
  unfold manyS at h
  unfold mvN
  split at h
  · cases h
  · split at h
    · rename_i h1 h2
      rw [if_neg h1, if_pos h2]
    · split at h <;> cases h
theorem mv_m3 {P : List Int} {x : Nd} (h : manyS x.k = 3) : mvN P x = ⟨x.k, sA P x.a, sA P x.b, sA P x.c⟩ := by
  unfold manyS at h
  unfold mvN
  split at h
  · cases h
  · split at h
    · cases h
    · split at h
      · rename_i h1 h2 h3
        rw [if_neg h1, if_neg h2, if_pos h3]
      · cases h
theorem mv_congr {P Q : List Int} {x : Nd} (h : ∀ y ∈ usesS x, sA P y = sA Q y) : mvN P x = mvN Q x := by
  have h3 : manyS x.k = 0 ∨ manyS x.k = 1 ∨ manyS x.k = 2 ∨ manyS x.k = 3 := by have := manyS_le x.k; omega
  rcases h3 with e | e | e | e
  · rw [mv_m0 e, mv_m0 e]
  · rw [mv_m1 e, mv_m1 e, h x.a (by unfold usesS; rw [e]; simp)]
  · rw [mv_m2 e, mv_m2 e, h x.a (by unfold usesS; rw [e]; simp), h x.b (by unfold usesS; rw [e]; simp)]
  · rw [mv_m3 e, mv_m3 e, h x.a (by unfold usesS; rw [e]; simp), h x.b (by unfold usesS; rw [e]; simp), h x.c (by unfold usesS; rw [e]; simp)]
theorem by_nodes {N M : List Nd} {B : List Bool} {nn : Nat} (re : Re N M (kpQ B nn) (plS N B nn nn)) : (kpL N B nn).map (mvN (byR B nn)) = (kpL N B nn).map (mvN (plS N B nn nn)) := by
  rw [kpL_Q, List.map_map, List.map_map]
  refine List.map_congr_left fun q hq => mv_congr fun y hy => ?_
  obtain ⟨m, rfl, hm⟩ := re.cls q hq y hy
  exact sA_by hm
theorem by_ports {N : List Nd} {B : List Bool} {nn : Nat} {L : List Pt} (h : PK (kpQ B nn) L) : L.map (outF (byR B nn)) = L.map (outF (plS N B nn nn)) := by
  refine List.map_congr_left fun p hp => ?_
  unfold outF
  congr 1
  refine List.map_congr_left fun y hy => ?_
  obtain ⟨m, rfl, hm⟩ := h p hp y hy
  exact sA_by hm
set_option maxHeartbeats 4000000 in
theorem rsweep_no {An Ai Ao : Option Addr} {nn cn ni ci no co : Nat} {N : List Nd} {I O : List Pt} {w : World} (h : Nt w An nn cn Ai ni ci Ao no co N I O) (hm : Nm I O) {d : Option (List Nat)} {e : Int} (hl : levelS N I O = (d, e)) (d0 : (e != 0) = true) : Calls Try.prog 27 #[.agg #[.slice An nn cn, .slice Ai ni ci, .slice Ao no co]] w fun en w' => en = .returned (.tuple #[.agg #[.slice none 0 0, .slice none 0 0, .slice none 0 0], .int .i64 0, .int .i64 e]) ∧ Below w.heap.size w w' := by
  have HL := Lib.hid hl
  have HM := Lib.hid hm
  clear hl hm
  go_enter Try.func27, Try.ntmps27
  go_upto_region 1 with fail
  obtain ⟨w1, e1⟩ : ∃ w', (w.alloc (.cells #[.slice An nn cn, .slice Ai ni ci, .slice Ao no co] 25)).alloc (.cells #[.slice none 0 0, .slice none 0 0, .slice none 0 0] 25) = w' := ⟨_, rfl⟩
  have z0 : Bx w1 w.heap.size [.slice An nn cn, .slice Ai ni ci, .slice Ao no co] := by
    rw [← e1]
    exact (Bx.made_k w rfl #[.slice An nn cn, .slice Ai ni ci, .slice Ao no co] 25).on (below_lit _ _)
  have ZR : Own w1 (w.heap.size + 1) 25 [.slice none 0 0, .slice none 0 0, .slice none 0 0] := by
    rw [← e1, ← size_lit w (.cells #[.slice An nn cn, .slice Ai ni ci, .slice Ao no co] 25) rfl]
    exact Own.made _ 25 [.slice none 0 0, .slice none 0 0, .slice none 0 0]
  have BW : Below w.heap.size w w1 := by rw [← e1]; exact below2 _ _ _
  rw [e1]
  clear e1
  replace h := h.on BW
  obtain ⟨s1, hs1⟩ : ∃ s1, w.heap.size + 1 = s1 := ⟨_, rfl⟩
  have hws : w.heap.size ≤ s1 := by omega
  rw [hs1] at ZR ⊢
  clear hs1
  have c0 := z0.2 0 _ rfl; have c1 := z0.2 1 _ rfl; have c2 := z0.2 2 _ rfl
  go_wp2_with fail
  refine (rcount_no h HM.out HL.out d0).mono ?_
  rintro en w2 ⟨rfl, b⟩
  clear c0 c1 c2
  replace ZR := ZR.below b ZR.lt
  replace BW := Below.step BW b
  have f0 := ZR.free 0; have f1 := ZR.free 1; have f2 := ZR.free 2
  have p0 : _ = some (Value.slice none 0 0) := ZR.cell 0; have p1 : _ = some (Value.slice none 0 0) := ZR.cell 1; have p2 : _ = some (Value.slice none 0 0) := ZR.cell 2
  clear b
  go_wp2_with fail
  clear f0 f1 f2 p0 p1 p2
  have VR := ((ZR.put 0 (.slice none 0 0)).put 1 (.slice none 0 0)).put 2 (.slice none 0 0)
  have p0 : _ = some (Value.slice none 0 0) := VR.cell 0; have p1 : _ = some (Value.slice none 0 0) := VR.cell 1; have p2 : _ = some (Value.slice none 0 0) := VR.cell 2
  have BW6 := ((BW.setCell (p := ⟨s1, 0, none⟩) hws (.slice none 0 0)).setCell (p := ⟨s1, 1, none⟩) hws (.slice none 0 0)).setCell (p := ⟨s1, 2, none⟩) hws (.slice none 0 0)
  refine bodyPost_ret (v := .tuple #[.agg #[.slice none 0 0, .slice none 0 0, .slice none 0 0], .int .i64 0, .int .i64 e]) (by simp [results, Try.results27, go_sem, p0, p1, p2]) rfl ⟨rfl, BW6⟩
/-- THE REFERENCE'S SWEEP. -/
theorem row_otherE {w : World} {base size n g : Nat} {t : TypeId} {v : Value} {xs : List Value} (h : w.ownsRow base t size v n xs) (hne : v.ownBlock ≠ some g) (o : Nat) (u : Value) : (w.setCell ⟨g, o, none⟩ u).ownsRow base t size v n xs := h.kept (grown_set _ _ _) (.inr hne)
set_option maxRecDepth 20000 in
set_option maxHeartbeats 8000000 in
theorem rsweep_yes {An Ai Ao : Option Addr} {nn cn ni ci no co : Nat} {N : List Nd} {I O : List Pt} {w : World} (h : Nt w An nn cn Ai ni ci Ao no co N I O) (hm : Nm I O) (hni : ni ≤ 66) (hno : no ≤ 66) (hb : ∀ p ∈ I ++ O, p.bits.length ≤ 4000) {dd L : List Nat} (lx : LvN N I O dd L) :
    Calls Try.prog 27 #[.agg #[.slice An nn cn, .slice Ai ni ci, .slice Ao no co]] w fun en w' => SwS N I O nn ni no en w' ∧ Below w.heap.size w w' := by
  have HB := Lib.hid hb
  have LX := Lib.hid lx
  have HM := Lib.hid hm
  have HLN := Lib.hid h.n.1
  have hnn := h.hn
  have HNB := Lib.hid h.hb
  have HHS := Lib.hid h.hs
  clear hb lx hm
  go_enter Try.func27, Try.ntmps27
  go_upto_region 1 with fail
  obtain ⟨w1, e1⟩ : ∃ w', (w.alloc (.cells #[.slice An nn cn, .slice Ai ni ci, .slice Ao no co] 25)).alloc (.cells #[.slice none 0 0, .slice none 0 0, .slice none 0 0] 25) = w' := ⟨_, rfl⟩
  have z0 : Bx w1 w.heap.size [.slice An nn cn, .slice Ai ni ci, .slice Ao no co] := by
    rw [← e1]
    exact (Bx.made_k w rfl #[.slice An nn cn, .slice Ai ni ci, .slice Ao no co] 25).on (below_lit _ _)
  have ZR : Own w1 (w.heap.size + 1) 25 [.slice none 0 0, .slice none 0 0, .slice none 0 0] := by
    rw [← e1, ← size_lit w (.cells #[.slice An nn cn, .slice Ai ni ci, .slice Ao no co] 25) rfl]
    exact Own.made _ 25 [.slice none 0 0, .slice none 0 0, .slice none 0 0]
  have BW : Below w.heap.size w w1 := by rw [← e1]; exact below2 _ _ _
  rw [e1]
  clear e1
  replace h := h.on BW
  obtain ⟨s1, hs1⟩ : ∃ s1, w.heap.size + 1 = s1 := ⟨_, rfl⟩
  have hws : w.heap.size ≤ s1 := by omega
  have hn01 : w.heap.size ≠ s1 := by omega
  rw [hs1] at ZR ⊢
  clear hs1
  have c0 := z0.2 0 _ rfl; have c1 := z0.2 1 _ rfl; have c2 := z0.2 2 _ rfl
  go_wp2_with fail
  refine (rcount_yes h HM.out hno HB.out LX.out).mono ?_
  rintro en w2 ⟨⟨g, B, rfl, hct, hgs⟩, b⟩
  clear c0 c1 c2
  replace z0 := z0.on b
  replace h := h.on b
  replace ZR := ZR.below b ZR.lt
  replace BW := Below.step BW b
  have HRC := Lib.hid hct.2.2
  have hlb := hct.2.1
  have HG := Lib.hid hct.1
  have HRE : Hid (Re N ((kpL N B nn).map (mvN (plS N B nn nn))) (kpQ B nn) (plS N B nn nn) ∧ PK (kpQ B nn) I ∧ PK (kpQ B nn) O) := Lib.hid (by
    have e := HLN.out
    subst e
    exact re_sweep hlb LX.out.fm (lx_plc LX.out) HRC.out)
  clear b hct
  go_upto_region 5 with fail
  have hrow : (w2.alloc (.cells #[] 3)).ownsRow w2.heap.size 3 1 (.slice (some ⟨w2.heap.size, 0, none⟩) 0 0) 0 [] := World.ownsRow_lit w2 #[] 0 (Nat.le_refl _) (by unfold maxLen; omega) rfl
  have b3 : Below w2.heap.size w2 (w2.alloc (.cells #[] 3)) := below_lit _ _
  obtain ⟨w3, e3⟩ : ∃ w', w2.alloc (.cells #[] 3) = w' := ⟨_, rfl⟩
  rw [e3] at hrow b3 ⊢
  obtain ⟨s3, hs3⟩ : ∃ s3, w2.heap.size = s3 := ⟨_, rfl⟩
  have HS3 : Hid (w2.heap.size = s3) := Lib.hid hs3
  have HR3 : Hid (w3.ownsRow w2.heap.size 3 1 (.slice (some ⟨s3, 0, none⟩) 0 0) 0 ((byR B 0).flatMap inC)) := Lib.hid (by rw [← HS3.out]; exact hrow)
  have HB3 := Lib.hid b3
  have e0 : Value.slice (some ⟨w2.heap.size, 0, none⟩) 0 0 = Value.slice (some ⟨s3, 0, none⟩) 0 0 := by rw [hs3]
  rw [e0]
  clear e0 e3 hrow b3 hs3
  go_wp2_with fail
  go_loopw [7, 8, 9] (fun tv kv iv wr => ∃ (vt : Value) (j kk : Nat), vt = tv ∧ j ≤ nn ∧ iv = .int .i64 j ∧ kv = .int .i64 kk ∧ Hid (kk = (kpQ B j).length) ∧ kk ≤ j ∧ Hid (wr.ownsRow w2.heap.size 3 1 vt j ((byR B j).flatMap inC)) ∧ Hid (Below w2.heap.size w2 wr)) (fun _ _ iv _ => nn - (intOf iv).toNat)
  case atStart => exact ⟨_, 0, 0, rfl, Nat.zero_le _, rfl, rfl, Lib.hid rfl, Nat.le_refl _, HR3, HB3⟩
  case round =>
    clear HR3 HB3
    obtain ⟨vt, j, kk, rfl, hj, rfl, rfl, HKK, hkj, HROW, HBR⟩ := hrel
    have a1 : ∀ u, B.getD j false = u → j < nn → wr.cell? ⟨g, j, none⟩ = some (.bool u) := fun u hu hl => by
      rw [(HG.out.below HBR.out HG.out.lt).cell j, List.getElem?_map, List.getElem?_eq_getElem (by omega)]
      rw [List.getD_eq_getElem?_getD, List.getElem?_eq_getElem (by omega)] at hu
      exact congrArg (fun b => some (Value.bool b)) hu
    have HA1 := Lib.hid a1
    clear a1
    by_cases hlt : j < nn
    · have hjn : (j : Int) < (nn : Int) := by omega
      have hj0 : (0 : Int) ≤ (j : Int) := by omega
      have hln : ((byR B j).flatMap inC).length = j := by rw [flat_len inC 1 inC_len, byR_len]; omega
      have hbw : w2.heap.size ≤ wr.heap.size := HBR.out.size
      have hr := HROW.out
      go_upto_region 10 with (at_builtin; refine wpList_pushN wr rfl _ _ 39 rfl elm_int (by omega) w2.heap.size vt j ((byR B j).flatMap inC) hln rfl hr (.int .i64 (kk : Int)) rfl rfl (by omega) hbw ?_; intro v' w5 hr5 hG5 hnb5)
      have bl : Below wr.heap.size wr (wr.alloc (.cells #[.int .i64 (kk : Int)] 3)) := below_lit _ _
      have eT : (byR B j).flatMap inC ++ [.int .i64 (kk : Int)] = (byR B (j + 1)).flatMap inC := by rw [byR_s, List.flatMap_append, HKK.out]; rfl
      rw [eT] at hr5
      have HR5 := Lib.hid hr5
      have B5 := (Below.step HBR.out bl).grown hG5 (Nat.le_trans hbw bl.size) (fun k hk => (hr.lt k hk).1)
      have HB5 := Lib.hid B5
      obtain ⟨u, hu⟩ : ∃ u, B.getD j false = u := ⟨_, rfl⟩
      have a2 : w5.cell? ⟨g, j, none⟩ = some (.bool u) := by
        rw [(HG.out.below B5 HG.out.lt).cell j, List.getElem?_map, List.getElem?_eq_getElem (by omega)]
        rw [List.getD_eq_getElem?_getD, List.getElem?_eq_getElem (by omega)] at hu
        exact congrArg (fun b => some (Value.bool b)) hu
      have HU := Lib.hid hu
      clear hr hr5 hG5 hnb5 bl eT B5 hu HROW hln
      cases u
      · have HK2 : Hid (kk = (kpQ B (j + 1)).length) := Lib.hid (by rw [kpQ_f HU.out]; exact HKK.out)
        go_wp2_with fail
        go_roundw
        case rel => exact ⟨v', j + 1, kk, rfl, by omega, by go_num, rfl, HK2, by omega, HR5, HB5⟩
        case measure => simp [intOf]; omega
      · have HK2 : Hid (kk + 1 = (kpQ B (j + 1)).length) := Lib.hid (by rw [kpQ_t HU.out, ← HKK.out])
        go_wp2_with fail
        go_roundw
        case rel => exact ⟨v', j + 1, kk + 1, rfl, by omega, by go_num, by go_num, HK2, by omega, HR5, HB5⟩
        case measure => simp [intOf]; omega
    · obtain rfl : j = nn := by omega
      have hjn : ¬ (j : Int) < (j : Int) := by omega
      obtain ⟨Ab, cb, rfl, swb, hoff, hby⟩ := row_is HROW.out
      have HOFF := Lib.hid hoff
      clear hoff
      have HLK : Hid (kk = (kpL N B j).length) := Lib.hid (by rw [kpL_Q, List.length_map]; exact HKK.out)
      obtain ⟨P, hP⟩ : ∃ P, byR B j = P := ⟨_, rfl⟩
      have HP := Lib.hid hP
      rw [hP] at hby
      obtain ⟨w5, rfl⟩ : ∃ x, x = wr := ⟨_, rfl⟩
      have z5 := z0.on HBR.out
      have h5 := h.on HBR.out
      have G5 := HG.out.below HBR.out HG.out.lt
      have ZR5 := ZR.below HBR.out ZR.lt
      have BW5 := BW.trans (HBR.out.mono BW.size)
      clear hP HROW HBR HA1 z0 h ZR BW HG
      go_upto_region 13 with fail
      have hrow : (w5.alloc (.cells #[] 43)).ownsRow w5.heap.size 43 4 (.slice (some ⟨w5.heap.size, 0, none⟩) 0 0) 0 [] := World.ownsRow_lit w5 #[] 0 (Nat.le_refl _) (by unfold maxLen; omega) rfl
      have b6 : Below w5.heap.size w5 (w5.alloc (.cells #[] 43)) := below_lit _ _
      obtain ⟨w6, e6⟩ : ∃ w', w5.alloc (.cells #[] 43) = w' := ⟨_, rfl⟩
      rw [e6] at hrow b6 ⊢
      obtain ⟨s6, hs6⟩ : ∃ s6, w5.heap.size = s6 := ⟨_, rfl⟩
      have HS6 : Hid (w5.heap.size = s6) := Lib.hid hs6
      have HR6 : Hid (w6.ownsRow w5.heap.size 43 4 (.slice (some ⟨s6, 0, none⟩) 0 0) (kpL N B 0).length (((kpL N B 0).map (mvN P)).flatMap ndC)) := Lib.hid (by rw [← HS6.out]; exact hrow)
      have HB6 := Lib.hid b6
      have e0 : Value.slice (some ⟨w5.heap.size, 0, none⟩) 0 0 = Value.slice (some ⟨s6, 0, none⟩) 0 0 := by rw [hs6]
      rw [e0]
      clear e0 e6 hrow b6 hs6
      go_wp2_with fail
      go_loopw [10, 11] (fun tv iv wr => ∃ (vt : Value) (i : Nat), vt = tv ∧ i ≤ j ∧ iv = .int .i64 i ∧ Hid (wr.ownsRow w5.heap.size 43 4 vt (kpL N B i).length (((kpL N B i).map (mvN P)).flatMap ndC)) ∧ Hid (Below w5.heap.size w5 wr)) (fun _ iv _ => j - (intOf iv).toNat)
      case atStart => exact ⟨_, 0, rfl, Nat.zero_le _, rfl, HR6, HB6⟩
      case round =>
        clear HR6 HB6
        obtain ⟨vt, i, rfl, hi, rfl, HROW, HBR⟩ := hrel
        by_cases hlt : i < j
        · have hin : (i : Int) < (j : Int) := by omega
          have hi0 : (0 : Int) ≤ (i : Int) := by omega
          obtain ⟨u, hu⟩ : ∃ u, B.getD i false = u := ⟨_, rfl⟩
          have a1 : wr.cell? ⟨g, i, none⟩ = some (.bool u) := by
            rw [(G5.below HBR.out G5.lt).cell i, List.getElem?_map, List.getElem?_eq_getElem (by omega)]
            rw [List.getD_eq_getElem?_getD, List.getElem?_eq_getElem (by omega)] at hu
            exact congrArg (fun b => some (Value.bool b)) hu
          have HU := Lib.hid hu
          clear hu
          cases u
          · have HR2 : Hid (wr.ownsRow w5.heap.size 43 4 vt (kpL N B (i + 1)).length (((kpL N B (i + 1)).map (mvN P)).flatMap ndC)) := Lib.hid (by rw [kpL_f HU.out]; exact HROW.out)
            go_wp2_with fail
            go_roundw
            case rel => exact ⟨vt, i + 1, rfl, by omega, by go_num, HR2, HBR⟩
            case measure => simp [intOf]; omega
          · obtain ⟨bn, off, x1, x2, x3, x4, eA, HX, hA⟩ := (h5.n.on HBR.out).nat hlt
            subst eA
            have HNX : Hid (N.getD i nd0 = ⟨x1, x2, x3, x4⟩) := Lib.hid (getD_of HX.out)
            have HYK : Hid (∀ y ∈ usesS ⟨x1, x2, x3, x4⟩, ∃ m : Nat, y = (m : Int) ∧ m < j) := Lib.hid fun y hy => by
              obtain ⟨m, e, hm⟩ := HRE.out.1.cls i (kpQ_mem.2 ⟨hlt, HU.out⟩) y (by rw [HNX.out]; exact hy)
              exact ⟨m, e, (kpQ_mem.1 hm).1⟩
            have a0 := (z5.on HBR.out).2 0 _ rfl
            have d1 := hA.c1; have d2 := hA.c2; have d3 := hA.c3; have d4 := hA.c4
            go_upto_region 18 with fail
            obtain ⟨w9, e_w9⟩ : ∃ w', wr.alloc (.cells #[.int .i64 x1, .int .i64 x2, .int .i64 x3, .int .i64 x4] 43) = w' := ⟨_, rfl⟩
            have z9 : Own w9 wr.heap.size 43 [.int .i64 x1, .int .i64 x2, .int .i64 x3, .int .i64 x4] := e_w9 ▸ Own.made wr 43 [.int .i64 x1, .int .i64 x2, .int .i64 x3, .int .i64 x4]
            have b9 : Below wr.heap.size wr w9 := e_w9 ▸ below_lit _ _
            rw [e_w9]
            have hro := row_on HROW.out b9
            have BR9 := Below.step HBR.out b9
            have hlow := HBR.out.size
            have hne9 : vt.ownBlock ≠ some wr.heap.size := fun e => by have := (HROW.out.lt _ e).2; omega
            clear e_w9 b9 a0 a1 d1 d2 d3 d4 hA HROW HBR
            obtain ⟨s9, hs9⟩ : ∃ s9, wr.heap.size = s9 := ⟨_, rfl⟩
            rw [hs9] at z9 hlow hne9 ⊢
            have HNE := Lib.hid hne9
            clear hne9
            clear hs9
            have c0 : w9.cell? ⟨s9, 0, none⟩ = some (.int .i64 x1) := z9.cell 0
            have c1 : w9.cell? ⟨s9, 1, none⟩ = some (.int .i64 x2) := z9.cell 1
            have c2 : w9.cell? ⟨s9, 2, none⟩ = some (.int .i64 x3) := z9.cell 2
            have c3 : w9.cell? ⟨s9, 3, none⟩ = some (.int .i64 x4) := z9.cell 3
            go_wp2_with fail
            refine (rusesV_as x1 x2 x3 x4 _).mono ?_
            rintro en w10 ⟨gy, mu, rfl, _, HMU, hm3, _, b⟩
            clear c0 c1 c2 c3
            replace z9 := z9.below b z9.lt
            have hro := row_on hro b
            replace BR9 := Below.step BR9 b
            clear b
            have hmu : mu = 0 ∨ mu = 1 ∨ mu = 2 ∨ mu = 3 := by omega
            rcases hmu with rfl | rfl | rfl | rfl
            · have HMV : Hid (mvN P ⟨x1, x2, x3, x4⟩ = ⟨x1, x2, x3, x4⟩) := Lib.hid (by
                rw [mv_m0 HMU.out.symm])
              go_upto_region 25 with fail
              have c0 : w10.cell? ⟨s9, 0, none⟩ = some (.int .i64 x1) := z9.cell 0
              have c1 : w10.cell? ⟨s9, 1, none⟩ = some (.int .i64 x2) := z9.cell 1
              have c2 : w10.cell? ⟨s9, 2, none⟩ = some (.int .i64 x3) := z9.cell 2
              have c3 : w10.cell? ⟨s9, 3, none⟩ = some (.int .i64 x4) := z9.cell 3
              have hlen := kpL_len N B i
              obtain ⟨k, hk⟩ : ∃ k, (kpL N B i).length = k := ⟨_, rfl⟩
              have HK := Lib.hid hk
              rw [hk] at hro hlen
              clear hk
              obtain ⟨w14, e14⟩ : ∃ w', w10.alloc (.cells #[.int .i64 x1, .int .i64 x2, .int .i64 x3, .int .i64 x4] 43) = w' := ⟨_, rfl⟩
              have b14 : Below w10.heap.size w10 w14 := e14 ▸ below_lit _ _
              have R14 := row_on hro b14
              have B14 := Below.step BR9 b14
              have hnil := Bx.ns (L := [⟨x1, x2, x3, x4⟩]) (e14 ▸ Bx.made_k w10 rfl #[.int .i64 x1, .int .i64 x2, .int .i64 x3, .int .i64 x4] 43)
              have hbs14 : w5.heap.size ≤ w14.heap.size := B14.size
              have cn14 : ∀ ad : Addr, (some ⟨w10.heap.size, 0, none⟩ : Option Addr) = some ad → ∀ (j : Nat) (u : Value), (ndC ⟨x1, x2, x3, x4⟩)[j]? = some u → w14.cell? (ad.add j) = some u := fun ad e j u hu => hnil.cells ad e j u (by simpa using hu)
              have on14 : ∀ u ∈ ndC ⟨x1, x2, x3, x4⟩, u.oneCell' = true := fun u hu => one_nd [⟨x1, x2, x3, x4⟩] u (by simpa using hu)
              have hn14 : k + 1 ≤ 1000000 := by omega
              go_wp2_with (at_builtin; refine wpList_app (A := some ⟨w10.heap.size, 0, none⟩) (m := 1) (c := 1) rfl _ _ 22 rfl elm_node (by omega) (by omega) w5.heap.size _ _ _ rfl R14 (ndC ⟨x1, x2, x3, x4⟩) rfl (fun e => by cases e) rfl cn14 on14 hn14 hbs14 ?_; intro v15 w15 R15 G15)
              have B15 := B14.grown G15 B14.size (fun k hk => (R14.lt k hk).1)
              have eT : ((kpL N B i).map (mvN P)).flatMap ndC ++ ndC ⟨x1, x2, x3, x4⟩ = ((kpL N B (i + 1)).map (mvN P)).flatMap ndC := by rw [kpL_t HU.out, List.map_append, List.flatMap_append, HNX.out]; simp only [List.map_cons, List.map_nil, HMV.out, List.flatMap_cons, List.flatMap_nil, List.append_nil]
              have eL : k + 1 = (kpL N B (i + 1)).length := by rw [kpL_t HU.out, List.length_append, HK.out]; rfl
              rw [eT, eL] at R15
              have HR15 := Lib.hid R15
              have HB15 := Lib.hid B15
              clear R15 B15 G15 R14 B14 hnil cn14 on14 hbs14 e14 b14 eT eL c0 c1 c2 c3 hro BR9 z9
              go_roundw
              case rel => exact ⟨v15, i + 1, rfl, by omega, by go_num, HR15, HB15⟩
              case measure => simp [intOf]; omega
            · have hu0 : x2 ∈ usesS ⟨x1, x2, x3, x4⟩ := by unfold usesS; rw [← HMU.out]; simp
              obtain ⟨m0, e0, hm0⟩ := HYK.out x2 hu0
              obtain ⟨bp0, op0, ep0, ip0⟩ := hby.iat hm0
              obtain rfl : op0 = 0 := (HOFF.out _ _ ep0).2
              rw [Nat.zero_add] at ip0
              have HMV : Hid (mvN P ⟨x1, x2, x3, x4⟩ = ⟨x1, P.getD m0 0, x3, x4⟩) := Lib.hid (by
                rw [mv_m1 HMU.out.symm]
                rw [e0, sA_nat])
              obtain ⟨y0, hy0⟩ : ∃ y, P.getD m0 0 = y := ⟨_, rfl⟩
              rw [hy0] at HMV ip0
              clear hy0
              subst ep0
              have hx00 : (0 : Int) ≤ (m0 : Int) := by omega
              have hx01 : (m0 : Int) < (j : Int) := by omega
              rw [e0] at z9
              clear hu0
              have j1 : _ = some (Value.int .i64 (m0 : Int)) := z9.cell 1
              have j2 := (ip0.on BR9).2
              have f1 := z9.free 1
              go_upto_region 21 with fail
              have z9' := z9.put 1 (.int .i64 y0)
              have hro' := row_otherE hro HNE.out 1 (.int .i64 y0)
              have BR9' := BR9.setCell (p := ⟨s9, 1, none⟩) hlow (.int .i64 y0)
              obtain ⟨w11, e_n⟩ : ∃ w', w10.setCell ⟨s9, 1, none⟩ (.int .i64 y0) = w' := ⟨_, rfl⟩
              rw [e_n] at z9' hro' BR9' ⊢
              replace z9 : Own w11 s9 43 [.int .i64 x1, .int .i64 y0, .int .i64 x3, .int .i64 x4] := z9'
              replace hro := hro'
              replace BR9 := BR9'
              clear e_n z9' hro' BR9' j1 j2 f1
              go_upto_region 25 with fail
              have c0 : w11.cell? ⟨s9, 0, none⟩ = some (.int .i64 x1) := z9.cell 0
              have c1 : w11.cell? ⟨s9, 1, none⟩ = some (.int .i64 y0) := z9.cell 1
              have c2 : w11.cell? ⟨s9, 2, none⟩ = some (.int .i64 x3) := z9.cell 2
              have c3 : w11.cell? ⟨s9, 3, none⟩ = some (.int .i64 x4) := z9.cell 3
              have hlen := kpL_len N B i
              obtain ⟨k, hk⟩ : ∃ k, (kpL N B i).length = k := ⟨_, rfl⟩
              have HK := Lib.hid hk
              rw [hk] at hro hlen
              clear hk
              obtain ⟨w14, e14⟩ : ∃ w', w11.alloc (.cells #[.int .i64 x1, .int .i64 y0, .int .i64 x3, .int .i64 x4] 43) = w' := ⟨_, rfl⟩
              have b14 : Below w11.heap.size w11 w14 := e14 ▸ below_lit _ _
              have R14 := row_on hro b14
              have B14 := Below.step BR9 b14
              have hnil := Bx.ns (L := [⟨x1, y0, x3, x4⟩]) (e14 ▸ Bx.made_k w11 rfl #[.int .i64 x1, .int .i64 y0, .int .i64 x3, .int .i64 x4] 43)
              have hbs14 : w5.heap.size ≤ w14.heap.size := B14.size
              have cn14 : ∀ ad : Addr, (some ⟨w11.heap.size, 0, none⟩ : Option Addr) = some ad → ∀ (j : Nat) (u : Value), (ndC ⟨x1, y0, x3, x4⟩)[j]? = some u → w14.cell? (ad.add j) = some u := fun ad e j u hu => hnil.cells ad e j u (by simpa using hu)
              have on14 : ∀ u ∈ ndC ⟨x1, y0, x3, x4⟩, u.oneCell' = true := fun u hu => one_nd [⟨x1, y0, x3, x4⟩] u (by simpa using hu)
              have hn14 : k + 1 ≤ 1000000 := by omega
              go_wp2_with (at_builtin; refine wpList_app (A := some ⟨w11.heap.size, 0, none⟩) (m := 1) (c := 1) rfl _ _ 22 rfl elm_node (by omega) (by omega) w5.heap.size _ _ _ rfl R14 (ndC ⟨x1, y0, x3, x4⟩) rfl (fun e => by cases e) rfl cn14 on14 hn14 hbs14 ?_; intro v15 w15 R15 G15)
              have B15 := B14.grown G15 B14.size (fun k hk => (R14.lt k hk).1)
              have eT : ((kpL N B i).map (mvN P)).flatMap ndC ++ ndC ⟨x1, y0, x3, x4⟩ = ((kpL N B (i + 1)).map (mvN P)).flatMap ndC := by rw [kpL_t HU.out, List.map_append, List.flatMap_append, HNX.out]; simp only [List.map_cons, List.map_nil, HMV.out, List.flatMap_cons, List.flatMap_nil, List.append_nil]
              have eL : k + 1 = (kpL N B (i + 1)).length := by rw [kpL_t HU.out, List.length_append, HK.out]; rfl
              rw [eT, eL] at R15
              have HR15 := Lib.hid R15
              have HB15 := Lib.hid B15
              clear R15 B15 G15 R14 B14 hnil cn14 on14 hbs14 e14 b14 eT eL c0 c1 c2 c3 hro BR9 z9
              go_roundw
              case rel => exact ⟨v15, i + 1, rfl, by omega, by go_num, HR15, HB15⟩
              case measure => simp [intOf]; omega
            · have hu0 : x2 ∈ usesS ⟨x1, x2, x3, x4⟩ := by unfold usesS; rw [← HMU.out]; simp
              have hu1 : x3 ∈ usesS ⟨x1, x2, x3, x4⟩ := by unfold usesS; rw [← HMU.out]; simp
              obtain ⟨m0, e0, hm0⟩ := HYK.out x2 hu0
              obtain ⟨bp0, op0, ep0, ip0⟩ := hby.iat hm0
              obtain rfl : op0 = 0 := (HOFF.out _ _ ep0).2
              rw [Nat.zero_add] at ip0
              obtain ⟨m1, e1, hm1⟩ := HYK.out x3 hu1
              obtain ⟨bp1, op1, ep1, ip1⟩ := hby.iat hm1
              obtain rfl : op1 = 0 := (HOFF.out _ _ ep1).2
              rw [Nat.zero_add] at ip1
              obtain rfl : bp0 = bp1 := by
                rw [ep0] at ep1
                injection ep1 with ep1
                injection ep1
              have HMV : Hid (mvN P ⟨x1, x2, x3, x4⟩ = ⟨x1, P.getD m0 0, P.getD m1 0, x4⟩) := Lib.hid (by
                rw [mv_m2 HMU.out.symm]
                rw [e0, sA_nat, e1, sA_nat])
              obtain ⟨y0, hy0⟩ : ∃ y, P.getD m0 0 = y := ⟨_, rfl⟩
              rw [hy0] at HMV ip0
              clear hy0
              obtain ⟨y1, hy1⟩ : ∃ y, P.getD m1 0 = y := ⟨_, rfl⟩
              rw [hy1] at HMV ip1
              clear hy1
              subst ep0
              have hx00 : (0 : Int) ≤ (m0 : Int) := by omega
              have hx01 : (m0 : Int) < (j : Int) := by omega
              have hx10 : (0 : Int) ≤ (m1 : Int) := by omega
              have hx11 : (m1 : Int) < (j : Int) := by omega
              rw [e0, e1] at z9
              clear hu0 hu1
              have j1 : _ = some (Value.int .i64 (m0 : Int)) := z9.cell 1
              have j2 := (ip0.on BR9).2
              have f1 := z9.free 1
              go_upto_region 21 with fail
              have z9' := z9.put 1 (.int .i64 y0)
              have hro' := row_otherE hro HNE.out 1 (.int .i64 y0)
              have BR9' := BR9.setCell (p := ⟨s9, 1, none⟩) hlow (.int .i64 y0)
              obtain ⟨w11, e_n⟩ : ∃ w', w10.setCell ⟨s9, 1, none⟩ (.int .i64 y0) = w' := ⟨_, rfl⟩
              rw [e_n] at z9' hro' BR9' ⊢
              replace z9 : Own w11 s9 43 [.int .i64 x1, .int .i64 y0, .int .i64 (m1 : Int), .int .i64 x4] := z9'
              replace hro := hro'
              replace BR9 := BR9'
              clear e_n z9' hro' BR9' j1 j2 f1
              have j1 : _ = some (Value.int .i64 (m1 : Int)) := z9.cell 2
              have j2 := (ip1.on BR9).2
              have f1 := z9.free 2
              go_upto_region 23 with fail
              have z9' := z9.put 2 (.int .i64 y1)
              have hro' := row_otherE hro HNE.out 2 (.int .i64 y1)
              have BR9' := BR9.setCell (p := ⟨s9, 2, none⟩) hlow (.int .i64 y1)
              obtain ⟨w12, e_n⟩ : ∃ w', w11.setCell ⟨s9, 2, none⟩ (.int .i64 y1) = w' := ⟨_, rfl⟩
              rw [e_n] at z9' hro' BR9' ⊢
              replace z9 : Own w12 s9 43 [.int .i64 x1, .int .i64 y0, .int .i64 y1, .int .i64 x4] := z9'
              replace hro := hro'
              replace BR9 := BR9'
              clear e_n z9' hro' BR9' j1 j2 f1
              go_upto_region 25 with fail
              have c0 : w12.cell? ⟨s9, 0, none⟩ = some (.int .i64 x1) := z9.cell 0
              have c1 : w12.cell? ⟨s9, 1, none⟩ = some (.int .i64 y0) := z9.cell 1
              have c2 : w12.cell? ⟨s9, 2, none⟩ = some (.int .i64 y1) := z9.cell 2
              have c3 : w12.cell? ⟨s9, 3, none⟩ = some (.int .i64 x4) := z9.cell 3
              have hlen := kpL_len N B i
              obtain ⟨k, hk⟩ : ∃ k, (kpL N B i).length = k := ⟨_, rfl⟩
              have HK := Lib.hid hk
              rw [hk] at hro hlen
              clear hk
              obtain ⟨w14, e14⟩ : ∃ w', w12.alloc (.cells #[.int .i64 x1, .int .i64 y0, .int .i64 y1, .int .i64 x4] 43) = w' := ⟨_, rfl⟩
              have b14 : Below w12.heap.size w12 w14 := e14 ▸ below_lit _ _
              have R14 := row_on hro b14
              have B14 := Below.step BR9 b14
              have hnil := Bx.ns (L := [⟨x1, y0, y1, x4⟩]) (e14 ▸ Bx.made_k w12 rfl #[.int .i64 x1, .int .i64 y0, .int .i64 y1, .int .i64 x4] 43)
              have hbs14 : w5.heap.size ≤ w14.heap.size := B14.size
              have cn14 : ∀ ad : Addr, (some ⟨w12.heap.size, 0, none⟩ : Option Addr) = some ad → ∀ (j : Nat) (u : Value), (ndC ⟨x1, y0, y1, x4⟩)[j]? = some u → w14.cell? (ad.add j) = some u := fun ad e j u hu => hnil.cells ad e j u (by simpa using hu)
              have on14 : ∀ u ∈ ndC ⟨x1, y0, y1, x4⟩, u.oneCell' = true := fun u hu => one_nd [⟨x1, y0, y1, x4⟩] u (by simpa using hu)
              have hn14 : k + 1 ≤ 1000000 := by omega
              go_wp2_with (at_builtin; refine wpList_app (A := some ⟨w12.heap.size, 0, none⟩) (m := 1) (c := 1) rfl _ _ 22 rfl elm_node (by omega) (by omega) w5.heap.size _ _ _ rfl R14 (ndC ⟨x1, y0, y1, x4⟩) rfl (fun e => by cases e) rfl cn14 on14 hn14 hbs14 ?_; intro v15 w15 R15 G15)
              have B15 := B14.grown G15 B14.size (fun k hk => (R14.lt k hk).1)
              have eT : ((kpL N B i).map (mvN P)).flatMap ndC ++ ndC ⟨x1, y0, y1, x4⟩ = ((kpL N B (i + 1)).map (mvN P)).flatMap ndC := by rw [kpL_t HU.out, List.map_append, List.flatMap_append, HNX.out]; simp only [List.map_cons, List.map_nil, HMV.out, List.flatMap_cons, List.flatMap_nil, List.append_nil]
              have eL : k + 1 = (kpL N B (i + 1)).length := by rw [kpL_t HU.out, List.length_append, HK.out]; rfl
              rw [eT, eL] at R15
              have HR15 := Lib.hid R15
              have HB15 := Lib.hid B15
              clear R15 B15 G15 R14 B14 hnil cn14 on14 hbs14 e14 b14 eT eL c0 c1 c2 c3 hro BR9 z9
              go_roundw
              case rel => exact ⟨v15, i + 1, rfl, by omega, by go_num, HR15, HB15⟩
              case measure => simp [intOf]; omega
            · have hu0 : x2 ∈ usesS ⟨x1, x2, x3, x4⟩ := by unfold usesS; rw [← HMU.out]; simp
              have hu1 : x3 ∈ usesS ⟨x1, x2, x3, x4⟩ := by unfold usesS; rw [← HMU.out]; simp
              have hu2 : x4 ∈ usesS ⟨x1, x2, x3, x4⟩ := by unfold usesS; rw [← HMU.out]; simp
              obtain ⟨m0, e0, hm0⟩ := HYK.out x2 hu0
              obtain ⟨bp0, op0, ep0, ip0⟩ := hby.iat hm0
              obtain rfl : op0 = 0 := (HOFF.out _ _ ep0).2
              rw [Nat.zero_add] at ip0
              obtain ⟨m1, e1, hm1⟩ := HYK.out x3 hu1
              obtain ⟨bp1, op1, ep1, ip1⟩ := hby.iat hm1
              obtain rfl : op1 = 0 := (HOFF.out _ _ ep1).2
              rw [Nat.zero_add] at ip1
              obtain ⟨m2, e2, hm2⟩ := HYK.out x4 hu2
              obtain ⟨bp2, op2, ep2, ip2⟩ := hby.iat hm2
              obtain rfl : op2 = 0 := (HOFF.out _ _ ep2).2
              rw [Nat.zero_add] at ip2
              obtain rfl : bp0 = bp1 := by
                rw [ep0] at ep1
                injection ep1 with ep1
                injection ep1
              obtain rfl : bp0 = bp2 := by
                rw [ep0] at ep2
                injection ep2 with ep2
                injection ep2
              have HMV : Hid (mvN P ⟨x1, x2, x3, x4⟩ = ⟨x1, P.getD m0 0, P.getD m1 0, P.getD m2 0⟩) := Lib.hid (by
                rw [mv_m3 HMU.out.symm]
                rw [e0, sA_nat, e1, sA_nat, e2, sA_nat])
              obtain ⟨y0, hy0⟩ : ∃ y, P.getD m0 0 = y := ⟨_, rfl⟩
              rw [hy0] at HMV ip0
              clear hy0
              obtain ⟨y1, hy1⟩ : ∃ y, P.getD m1 0 = y := ⟨_, rfl⟩
              rw [hy1] at HMV ip1
              clear hy1
              obtain ⟨y2, hy2⟩ : ∃ y, P.getD m2 0 = y := ⟨_, rfl⟩
              rw [hy2] at HMV ip2
              clear hy2
              subst ep0
              have hx00 : (0 : Int) ≤ (m0 : Int) := by omega
              have hx01 : (m0 : Int) < (j : Int) := by omega
              have hx10 : (0 : Int) ≤ (m1 : Int) := by omega
              have hx11 : (m1 : Int) < (j : Int) := by omega
              have hx20 : (0 : Int) ≤ (m2 : Int) := by omega
              have hx21 : (m2 : Int) < (j : Int) := by omega
              rw [e0, e1, e2] at z9
              clear hu0 hu1 hu2
              have j1 : _ = some (Value.int .i64 (m0 : Int)) := z9.cell 1
              have j2 := (ip0.on BR9).2
              have f1 := z9.free 1
              go_upto_region 21 with fail
              have z9' := z9.put 1 (.int .i64 y0)
              have hro' := row_otherE hro HNE.out 1 (.int .i64 y0)
              have BR9' := BR9.setCell (p := ⟨s9, 1, none⟩) hlow (.int .i64 y0)
              obtain ⟨w11, e_n⟩ : ∃ w', w10.setCell ⟨s9, 1, none⟩ (.int .i64 y0) = w' := ⟨_, rfl⟩
              rw [e_n] at z9' hro' BR9' ⊢
              replace z9 : Own w11 s9 43 [.int .i64 x1, .int .i64 y0, .int .i64 (m1 : Int), .int .i64 (m2 : Int)] := z9'
              replace hro := hro'
              replace BR9 := BR9'
              clear e_n z9' hro' BR9' j1 j2 f1
              have j1 : _ = some (Value.int .i64 (m1 : Int)) := z9.cell 2
              have j2 := (ip1.on BR9).2
              have f1 := z9.free 2
              go_upto_region 23 with fail
              have z9' := z9.put 2 (.int .i64 y1)
              have hro' := row_otherE hro HNE.out 2 (.int .i64 y1)
              have BR9' := BR9.setCell (p := ⟨s9, 2, none⟩) hlow (.int .i64 y1)
              obtain ⟨w12, e_n⟩ : ∃ w', w11.setCell ⟨s9, 2, none⟩ (.int .i64 y1) = w' := ⟨_, rfl⟩
              rw [e_n] at z9' hro' BR9' ⊢
              replace z9 : Own w12 s9 43 [.int .i64 x1, .int .i64 y0, .int .i64 y1, .int .i64 (m2 : Int)] := z9'
              replace hro := hro'
              replace BR9 := BR9'
              clear e_n z9' hro' BR9' j1 j2 f1
              have j1 : _ = some (Value.int .i64 (m2 : Int)) := z9.cell 3
              have j2 := (ip2.on BR9).2
              have f1 := z9.free 3
              go_upto_region 25 with fail
              have z9' := z9.put 3 (.int .i64 y2)
              have hro' := row_otherE hro HNE.out 3 (.int .i64 y2)
              have BR9' := BR9.setCell (p := ⟨s9, 3, none⟩) hlow (.int .i64 y2)
              obtain ⟨w13, e_n⟩ : ∃ w', w12.setCell ⟨s9, 3, none⟩ (.int .i64 y2) = w' := ⟨_, rfl⟩
              rw [e_n] at z9' hro' BR9' ⊢
              replace z9 : Own w13 s9 43 [.int .i64 x1, .int .i64 y0, .int .i64 y1, .int .i64 y2] := z9'
              replace hro := hro'
              replace BR9 := BR9'
              clear e_n z9' hro' BR9' j1 j2 f1
              have c0 : w13.cell? ⟨s9, 0, none⟩ = some (.int .i64 x1) := z9.cell 0
              have c1 : w13.cell? ⟨s9, 1, none⟩ = some (.int .i64 y0) := z9.cell 1
              have c2 : w13.cell? ⟨s9, 2, none⟩ = some (.int .i64 y1) := z9.cell 2
              have c3 : w13.cell? ⟨s9, 3, none⟩ = some (.int .i64 y2) := z9.cell 3
              have hlen := kpL_len N B i
              obtain ⟨k, hk⟩ : ∃ k, (kpL N B i).length = k := ⟨_, rfl⟩
              have HK := Lib.hid hk
              rw [hk] at hro hlen
              clear hk
              obtain ⟨w14, e14⟩ : ∃ w', w13.alloc (.cells #[.int .i64 x1, .int .i64 y0, .int .i64 y1, .int .i64 y2] 43) = w' := ⟨_, rfl⟩
              have b14 : Below w13.heap.size w13 w14 := e14 ▸ below_lit _ _
              have R14 := row_on hro b14
              have B14 := Below.step BR9 b14
              have hnil := Bx.ns (L := [⟨x1, y0, y1, y2⟩]) (e14 ▸ Bx.made_k w13 rfl #[.int .i64 x1, .int .i64 y0, .int .i64 y1, .int .i64 y2] 43)
              have hbs14 : w5.heap.size ≤ w14.heap.size := B14.size
              have cn14 : ∀ ad : Addr, (some ⟨w13.heap.size, 0, none⟩ : Option Addr) = some ad → ∀ (j : Nat) (u : Value), (ndC ⟨x1, y0, y1, y2⟩)[j]? = some u → w14.cell? (ad.add j) = some u := fun ad e j u hu => hnil.cells ad e j u (by simpa using hu)
              have on14 : ∀ u ∈ ndC ⟨x1, y0, y1, y2⟩, u.oneCell' = true := fun u hu => one_nd [⟨x1, y0, y1, y2⟩] u (by simpa using hu)
              have hn14 : k + 1 ≤ 1000000 := by omega
              go_wp2_with (at_builtin; refine wpList_app (A := some ⟨w13.heap.size, 0, none⟩) (m := 1) (c := 1) rfl _ _ 22 rfl elm_node (by omega) (by omega) w5.heap.size _ _ _ rfl R14 (ndC ⟨x1, y0, y1, y2⟩) rfl (fun e => by cases e) rfl cn14 on14 hn14 hbs14 ?_; intro v15 w15 R15 G15)
              have B15 := B14.grown G15 B14.size (fun k hk => (R14.lt k hk).1)
              have eT : ((kpL N B i).map (mvN P)).flatMap ndC ++ ndC ⟨x1, y0, y1, y2⟩ = ((kpL N B (i + 1)).map (mvN P)).flatMap ndC := by rw [kpL_t HU.out, List.map_append, List.flatMap_append, HNX.out]; simp only [List.map_cons, List.map_nil, HMV.out, List.flatMap_cons, List.flatMap_nil, List.append_nil]
              have eL : k + 1 = (kpL N B (i + 1)).length := by rw [kpL_t HU.out, List.length_append, HK.out]; rfl
              rw [eT, eL] at R15
              have HR15 := Lib.hid R15
              have HB15 := Lib.hid B15
              clear R15 B15 G15 R14 B14 hnil cn14 on14 hbs14 e14 b14 eT eL c0 c1 c2 c3 hro BR9 z9
              go_roundw
              case rel => exact ⟨v15, i + 1, rfl, by omega, by go_num, HR15, HB15⟩
              case measure => simp [intOf]; omega
        · obtain rfl : i = j := by omega
          have hin : ¬ (i : Int) < (i : Int) := by omega
          have ROW := HROW.out
          rw [← HLK.out] at ROW
          obtain ⟨Al, cl, rfl, swl, hoff2, hns⟩ := row_ns ROW
          clear ROW
          have z6 := z5.on HBR.out
          have h6 := h5.on HBR.out
          have ZR6 := ZR5.below HBR.out ZR5.lt
          have BW6 := BW5.trans (HBR.out.mono BW5.size)
          have by6 := hby.on HBR.out
          have HSL := Lib.hid swl
          have HHF := Lib.hid hoff2
          have hs15 := ZR5.lt
          have hsz5 : w5.heap.size ≤ wr.heap.size := HBR.out.size
          clear hoff2 HROW HBR z5 h5 ZR5 BW5 G5 swl swb HOFF hby
          have q1 : IntKind.i64.wrap ((i : Int) - (kk : Int)) = (i : Int) - (kk : Int) := by rw [IntKind.wrap_i64]; omega
          have HPI : Hid ((∀ p ∈ I, Plc i p.bits) ∧ ∀ p ∈ O, Plc i p.bits) := Lib.hid (by
            have hp := lx_plc LX.out
            rw [HLN.out] at hp
            exact ⟨fun p hp1 y hy => hp y (List.mem_append_left _ (List.mem_flatMap.2 ⟨p, hp1, hy⟩)), fun p hp1 y hy => hp y (List.mem_append_right _ (List.mem_flatMap.2 ⟨p, hp1, hy⟩))⟩)
          go_upto_region 26 with fail
          refine LexG.region_planU (KB3.ok w.heap.size w.heap.size w.heap.size) [4, 8, 14] [0, 1, 2, 3, 5, 6, 7, 10, 11, 12, 13, 4, 8, 9, 14, 15, 16] (by kernel_rfl) (by kernel_rfl) (by kernel_rfl) (by kernel_rfl) (by kernel_rfl) ?_
          dsimp only [LexG.pick, LexG.nth]
          have bd : Below wr.heap.size wr wr.drew := (Below.refl _ _).drew
          replace z6 := z6.on bd
          replace h6 := h6.on bd
          replace ZR6 := ZR6.below bd ZR6.lt
          replace BW6 := Below.step BW6 bd
          replace by6 := by6.on bd
          replace hns := hns.on bd
          obtain ⟨w7, e7⟩ : ∃ w', wr.drew = w' := ⟨_, rfl⟩
          rw [e7] at z6 h6 ZR6 BW6 by6 hns bd ⊢
          have hsz7 : w5.heap.size ≤ w7.heap.size := Nat.le_trans hsz5 bd.size
          clear e7 bd
          have lf1 := fun s : LexG.Wd (KB3 w.heap.size w.heap.size w.heap.size) w7 => (show s.w.cell? ⟨w.heap.size, 1, none⟩ = some (Value.slice Ai ni ci) from (cell_of_heap s.rel.1 1).trans z6.n1)
          have lf2 := fun s : LexG.Wd (KB3 w.heap.size w.heap.size w.heap.size) w7 => (show s.w.cell? ⟨w.heap.size, 2, none⟩ = some (Value.slice Ao no co) from (cell_of_heap s.rel.1 2).trans z6.n2)
          refine LexG.lexU_plain 11 (by kernel_rfl) (by kernel_rfl) ?_
          dsimp only [List.take, List.drop]
          repeat go_big_quiet_step (fail)
          refine wpQuiet_nil ?_
          clear lf1 lf2
          refine LexG.lexU_call (by kernel_rfl) (by kernel_rfl) (fun K hK => ?_)
          go_simp
          refine (rports11_as h6.i hni (fun p hp => HB.out p (List.mem_append_left _ hp)) by6 HPI.out.1).mono ?_
          rintro en w8 ⟨Bi, di, rfl, hpi, swi, b⟩
          replace hpi := hpi.mono hsz7
          have hsz8 : w5.heap.size ≤ w8.heap.size := Nat.le_trans hsz7 b.size
          dsimp only
          have kb := b.block _ z6.1
          refine hK _ _ ⟨kb, kb, kb⟩ ?_
          clear kb
          clear hK K
          replace z6 := z6.on b
          replace h6 := h6.on b
          replace ZR6 := ZR6.below b ZR6.lt
          replace BW6 := Below.step BW6 b
          replace by6 := by6.on b
          replace hns := hns.on b
          clear b
          refine LexG.lexU_call (by kernel_rfl) (by kernel_rfl) (fun K hK => ?_)
          go_simp
          refine (rports11_as h6.o hno (fun p hp => HB.out p (List.mem_append_right _ hp)) by6 HPI.out.2).mono ?_
          rintro en w9 ⟨Bo, do', rfl, hpo, swo, b⟩
          replace hpo := hpo.mono hsz8
          dsimp only
          have kb := b.block _ z6.1
          refine hK _ _ ⟨kb, kb, kb⟩ ?_
          clear kb
          clear hK K
          replace ZR6 := ZR6.below b ZR6.lt
          replace BW6 := Below.step BW6 b
          replace hpi := hpi.on b
          replace hns := hns.on b
          clear b z6 h6 by6
          refine LexG.lexU_plain 1 (by kernel_rfl) (by kernel_rfl) ?_
          dsimp only [List.take, List.drop]
          repeat go_big_quiet_step (fail)
          refine wpQuiet_nil ?_
          have f0 := ZR6.free 0; have f1 := ZR6.free 1; have f2 := ZR6.free 2
          have p0 : _ = some (Value.slice none 0 0) := ZR6.cell 0; have p1 : _ = some (Value.slice none 0 0) := ZR6.cell 1; have p2 : _ = some (Value.slice none 0 0) := ZR6.cell 2
          refine LexG.lexU_call (by kernel_rfl) (by kernel_rfl) (fun K hK => ?_)
          go_simp
          have kb : (((w9.setCell ⟨s1, 0, none⟩ (.slice Al kk cl)).setCell ⟨s1, 1, none⟩ (.slice Bi ni di)).setCell ⟨s1, 2, none⟩ (.slice Bo no do')).heap[w.heap.size]? = w9.heap[w.heap.size]? := by
            rw [Below.heap_setCell _ _ _ _ hn01, Below.heap_setCell _ _ _ _ hn01, Below.heap_setCell _ _ _ _ hn01]
          refine hK _ _ ⟨kb, kb, kb⟩ ?_
          clear kb
          clear hK K f0 f1 f2 p0 p1 p2
          have VR := ((ZR6.put 0 (.slice Al kk cl)).put 1 (.slice Bi ni di)).put 2 (.slice Bo no do')
          have BW7 := ((BW6.setCell (p := ⟨s1, 0, none⟩) hws (.slice Al kk cl)).setCell (p := ⟨s1, 1, none⟩) hws (.slice Bi ni di)).setCell (p := ⟨s1, 2, none⟩) hws (.slice Bo no do')
          refine LexG.lexU_plain 2 (by kernel_rfl) (by kernel_rfl) ?_
          dsimp only [List.take, List.drop]
          repeat go_big_quiet_step (fail)
          refine wpQuiet_nil ?_
          refine LexG.lexU_nil ?_
          dsimp only [NoPanic]
          obtain ⟨w10, e10⟩ : ∃ w', ((w9.setCell ⟨s1, 0, none⟩ (.slice Al kk cl)).setCell ⟨s1, 1, none⟩ (.slice Bi ni di)).setCell ⟨s1, 2, none⟩ (.slice Bo no do') = w' := ⟨_, rfl⟩
          have hkp : ∀ b, w5.heap.size ≤ b → b < w9.heap.size → w10.heap[b]? = w9.heap[b]? := fun b hb _ => by
            have hne : b ≠ s1 := by omega
            rw [← e10, Below.heap_setCell _ _ _ _ hne, Below.heap_setCell _ _ _ _ hne, Below.heap_setCell _ _ _ _ hne]
          have hsz10 : w9.heap.size ≤ w10.heap.size := by rw [← e10]; simp [World.setCell]
          rw [e10] at VR BW7 ⊢
          have hns10 := hns.by_ (s := w5.heap.size) (fun b off e => (HHF.out b off e).1) hsz10 hkp
          have hpi10 := (hpi.by_ hsz10 hkp).ps
          have hpo10 := (hpo.by_ hsz10 hkp).ps
          have HFN : Hid (Nt w10 Al kk cl Bi ni di Bo no do' ((kpL N B i).map (mvN (plS N B i i))) (I.map (outF (plS N B i i))) (O.map (outF (plS N B i i)))) := Lib.hid (by
            have x1 := by_nodes HRE.out.1
            have x2 := by_ports (N := N) HRE.out.2.1
            have x3 := by_ports (N := N) HRE.out.2.2
            rw [HP.out] at x1 x2 x3
            rw [← x1, ← x2, ← x3]
            refine ⟨hns10, hpi10, hpo10, swi, swo, by omega, HHS.out, fun p hp => ?_⟩
            rw [← List.map_append] at hp
            obtain ⟨p0, hp0, rfl⟩ := List.mem_map.1 hp
            unfold outF
            rw [List.length_map]
            exact HNB.out p0 hp0)
          clear hns10 hpi10 hpo10 hkp hsz10 e10 hns hpi hpo ZR6 BW6
          have p0 : _ = some (Value.slice Al kk cl) := VR.cell 0; have p1 : _ = some (Value.slice Bi ni di) := VR.cell 1; have p2 : _ = some (Value.slice Bo no do') := VR.cell 2
          go_wp2_with fail
          refine bodyPost_ret (v := .tuple #[.agg #[.slice Al kk cl, .slice Bi ni di, .slice Bo no do'], .int .i64 ((i : Int) - (kk : Int)), .int .i64 0]) (by simp [results, Try.results27, go_sem, p0, p1, p2]) rfl ⟨?_, BW7⟩
          unfold SwS
          exact ⟨B, Al, kk, cl, Bi, di, Bo, do', rfl, hlb, HRC.out, HLK.out.symm, HFN.out, HSL.out⟩
end Go.Proofs.Ytcehklnonhalhaa
