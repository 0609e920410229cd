/-
  What the proofs of SweepTells and SweepCones and SweepSame need: Yq Yt.
-/
import Derived.Test.YtcehklnonhalhaaSWYl
import Derived.Test.YtcehklnonhalhaaSWGr
import Derived.Deep.RegionHeld3
namespace Go.Proofs.Ytcehklnonhalhaa
open Go.RowKit
set_option linter.unusedVariables false
set_option maxRecDepth 4000

/-- the first j ports' bits: rows of the call's own, each in a block of its own. -/
def GD (w : World) (base j : Nat) (R : List Rp) (L : List Pt) : Prop := ∀ (k : Nat) (r : Rp) (p : Pt), k < j → R[k]? = some r → L[k]? = some p → w.ownsRow base 3 1 (.slice r.A r.m r.c) r.m (p.bits.flatMap inC) ∧ ∀ (k' : Nat) (r' : Rp), k < k' → k' < j → R[k']? = some r' → ∀ b, (Value.slice r.A r.m r.c).ownBlock = some b → (Value.slice r'.A r'.m r'.c).ownBlock ≠ some b
theorem GD.on {w w' : World} {base j : Nat} {R : List Rp} {L : List Pt} (h : GD w base j R L) (hb : Below w.heap.size w w') : GD w' base j R L := fun k r p hk hr hp => by
  obtain ⟨h1, h2⟩ := h k r p hk hr hp
  exact ⟨row_on h1 hb, h2⟩
theorem GD.step {w : World} {base j g B4 m c4 : Nat} {R : List Rp} {L : List Pt} {A4 : Option Addr} {p : Pt} (h : GD w base j R L) (hg : ∃ cur, w.heap[g]? = some (.cells cur 41 (0, 0)) ∧ base ≤ g) (hp : L[j]? = some p) (hn : w.ownsRow base 3 1 (.slice A4 m c4) m (p.bits.flatMap inC)) (hold : ∀ (k : Nat) (r : Rp) (p : Pt), k < j → R[k]? = some r → L[k]? = some p → ∀ b, (Value.slice r.A r.m r.c).ownBlock = some b → b < B4) (hnew : ∀ b, (Value.slice A4 m c4).ownBlock = some b → B4 ≤ b) (u : Value) (nm : ByteArray) : GD (w.setCell ⟨g, j * 2 + 1, none⟩ u) base (j + 1) (R.set j ⟨nm, A4, m, c4⟩) L := by
  obtain ⟨cur, hg, _⟩ := hg
  have keep : ∀ {v : Value} {n : Nat} {xs : List Value}, w.ownsRow base 3 1 v n xs → (w.setCell ⟨g, j * 2 + 1, none⟩ u).ownsRow base 3 1 v n xs := fun {v n xs} hr => by
    refine hr.kept (grown_set _ _ _) ?_
    rcases hr.2 with ⟨e, _⟩ | ⟨g', cap, cur', e, _, hg', _⟩
    · left; rw [e]; rfl
    · right
      rw [e]
      intro k
      unfold Value.ownBlock at k
      injection k with k
      exact type_ne hg' hg (by decide) k
  intro k r' p' hk hr' hp'
  rw [List.getElem?_set] at hr'
  by_cases e : j = k
  · subst e
    rw [if_pos rfl] at hr'
    split at hr'
    · injection hr' with hr'
      subst hr'
      rw [hp] at hp'
      injection hp' with hp'
      subst hp'
      exact ⟨keep hn, fun k' r'' h1 h2 => absurd h1 (by omega)⟩
    · cases hr'
  · rw [if_neg e] at hr'
    obtain ⟨h1, h2⟩ := h k r' p' (by omega) hr' hp'
    refine ⟨keep h1, fun k' r'' h3 h4 hr'' b hb => ?_⟩
    rw [List.getElem?_set] at hr''
    by_cases e' : j = k'
    · rw [if_pos e'] at hr''
      split at hr''
      · injection hr'' with hr''
        subst hr''
        intro hb'
        have h5 := hold k r' p' (by omega) hr' hp' b hb
        have h6 := hnew b hb'
        omega
      · cases hr''
    · rw [if_neg e'] at hr''
      exact h2 k' r'' h3 (by omega) hr'' b hb
set_option maxHeartbeats 2000000 in
/-- PORTS ARE COPIED, each one's bits to a block of its own. -/
theorem clonePortsD_as {A : Option Addr} {n c : Nat} {L : List Pt} {w : World} (h : Ps w A n L) (sw : Sw A n c) (hn : n ≤ 1000) (hb : ∀ p ∈ L, p.bits.length ≤ 100000) :
    Calls Try.prog 68 #[.slice A n c] w fun en w' => ∃ A' c' R, en = .returned (.slice A' n c') ∧ w'.ownsRow w.heap.size 41 2 (.slice A' n c') n (R.flatMap ptC) ∧ R.length = n ∧ (∀ (k : Nat) (r : Rp) (p : Pt), R[k]? = some r → L[k]? = some p → r.name = p.name) ∧ GD w' w.heap.size n R L ∧ Below w.heap.size w w' := by
  have HB := Lib.hid hb
  have HLN := Lib.hid h.1
  clear hb
  obtain ⟨R, hR, hF⟩ := h.raw
  go_enter Try.func68, Try.ntmps68
  go_wp2_with fail
  refine (cloneP_as hR sw (by omega)).mono ?_
  rintro e w1 ⟨v, rfl, hrow, b1⟩
  obtain ⟨A', c', rfl, sw', hlow, _⟩ := row_at hrow
  have HF : FitX w1 A' w.heap.size 0 R L := ⟨hF.1, fun k r p hr hp => by
    obtain ⟨h1, h2, h3, h4⟩ := hF.2 k r p hr hp
    refine ⟨h1, h2, h3, IsB.on (h4.isB fun b off e hb => ⟨fun q => ?_, fun hk => absurd hk (by omega)⟩) b1⟩
    have := (hlow b 0 q).1
    omega⟩
  have HLOW := Lib.hid hlow
  clear hF hR h hlow
  go_wp2_with fail
  go_loopw [9] (fun i wr => ∃ j : Nat, j ≤ n ∧ i = .int .i64 j ∧ ∃ R' : List Rp, wr.ownsRow w.heap.size 41 2 (.slice A' n c') n (R'.flatMap ptC) ∧ FitX wr A' w.heap.size j R' L ∧ GD wr w.heap.size j R' L ∧ Below w.heap.size w wr) (fun i _ => n - (intOf i).toNat)
  case atStart => exact ⟨0, Nat.zero_le _, rfl, R, hrow, HF, fun k r p hk => absurd hk (by omega), b1⟩
  case round =>
    clear hrow HF b1
    obtain ⟨j, hj, rfl, R', hrow, hf, hgd, BW⟩ := hrel
    have HGD := Lib.hid hgd
    clear hgd
    by_cases hlt : j < n
    · obtain ⟨p, hp⟩ := look_ex HLN.out hlt
      obtain ⟨r, hr⟩ := look_ex (hf.1.trans HLN.out) hlt
      have HX := Lib.hid hp
      have HY := Lib.hid hr
      obtain ⟨h1, h2, h3, h4⟩ := hf.2 j r p hr hp
      clear h1
      have hbl : r.m ≤ 100000 := by rw [← h4.1]; exact HB.out p (List.mem_of_getElem? hp)
      obtain ⟨A0, c0, q0, _, hl0, hc0⟩ := row_at hrow
      injection q0 with qa qb qc
      subst qa qc
      obtain ⟨g, eA, hg, k1⟩ := hc0 (j * 2 + 0) (.string r.name) (by rw [flat_at ptC 2 ptC_len R' j 0 (by omega), hr]; rfl)
      obtain ⟨g', eA', _, k2⟩ := hc0 (j * 2 + 1) (.slice r.A r.m r.c) (by rw [flat_at ptC 2 ptC_len R' j 1 (by omega), hr]; rfl)
      subst eA
      injection eA' with eA'
      injection eA' with eA'
      subst eA'
      rw [Nat.add_zero] at k1
      have hwg : w.heap.size ≤ g := (hl0 g 0 rfl).1
      have f0 := hrow.frozenAt (j * 2 + 1)
      clear hp hr hc0 hl0
      go_upto_region 5 with fail
      obtain ⟨w2, e_w2⟩ : ∃ w', wr.alloc (.cells #[.string r.name, .slice r.A r.m r.c] 41) = w' := ⟨_, rfl⟩
      have z0 : Bx w2 wr.heap.size [.string r.name, .slice r.A r.m r.c] := e_w2 ▸ Bx.made_k wr rfl #[.string r.name, .slice r.A r.m r.c] 41
      have b2 : Below wr.heap.size wr w2 := e_w2 ▸ below_lit _ _
      rw [e_w2]
      clear e_w2
      have z0c1 := z0.2 1 _ rfl
      have BW2 := Below.step BW b2
      have hrow2 := row_on hrow b2
      have hf2 := hf.on b2
      have HGD2 := Lib.hid (HGD.out.on b2)
      have hi2 := h4.is.on b2
      have hg2 : g < w2.heap.size := Nat.lt_of_lt_of_le hg b2.size
      have hw2 : w.heap.size ≤ w2.heap.size := BW2.size
      clear k1 k2 f0 hrow hf b2
      go_wp2_with (go_at_call 95; refine (cloneI_as hi2 ⟨h2.1, h3, h2.2⟩ hbl).mono ?_; rintro e w4 ⟨v4, rfl, hrow4, b4⟩; obtain ⟨A4, c4, rfl, sw4, hl4, hi4⟩ := row_is hrow4; have hrow5 := row_on hrow2 b4; have f5 := hrow5.frozenAt (j * 2 + 1); have k5 := (hrow5.cellAt (j * 2 + 1) (by omega)).trans (show (R'.flatMap ptC)[j * 2 + 1]? = some (.slice r.A r.m r.c) by rw [flat_at ptC 2 ptC_len R' j 1 (by omega), HY.out]; rfl))
      have BW4 := Below.step BW2 b4
      have hS := hrow5.stored (j * 2 + 1) (.slice A4 r.m c4)
      rw [flat_set R' j A4 r.m c4 r HY.out] at hS
      have hf4 := (hf2.on b4).step HY.out HX.out sw4 hi4 (fun b off e => ⟨Nat.le_trans hw2 (hl4 b off e).1, by have := (hl4 b off e).1; omega⟩) (.slice A4 r.m c4)
      have HG5 := Lib.hid ((HGD2.out.on b4).step (B4 := w2.heap.size) (row_type hrow5) HX.out (row_low hrow4 hw2) (fun k r p hk hr hp b e => (((HGD2.out k r p hk hr hp).1.lt b e).2)) (fun b e => (hrow4.lt b e).1) (.slice A4 r.m c4) r.name)
      have BW5 := BW4.setCell (p := ⟨g, j * 2 + 1, none⟩) hwg (.slice A4 r.m c4)
      go_roundw
      case rel => exact ⟨j + 1, by omega, by go_num, _, hS.1, hf4, HG5.out, BW5⟩
      case measure => simp [intOf]; omega
    · obtain rfl : j = n := by omega
      go_wp2_with fail
      go_ret
      exact ⟨A', c', R', rfl, hrow, hf.1.trans HLN.out, fun k r p hr hp => (hf.2 k r p hr hp).1, HGD.out, BW⟩
end Go.Proofs.Ytcehklnonhalhaa
namespace Go.Proofs.Ytcehklnonhalhaa
open Go.RowKit
set_option linter.unusedVariables false
set_option maxRecDepth 4000

theorem row_keepS {w : World} {base s1 size n : Nat} {t : TypeId} {v : Value} {xs : List Value} (h : w.ownsRow base t size v n xs) (hs : s1 < base) (o : Nat) (u : Value) : (w.setCell ⟨s1, o, none⟩ u).ownsRow base t size v n xs := by
  refine h.kept (grown_set _ _ _) (.inr fun e => ?_)
  have e' : v.ownBlock = some s1 := e
  have := (h.lt _ e').1
  omega
theorem GD.low {w : World} {base base2 j : Nat} {R : List Rp} {L : List Pt} (h : GD w base j R L) (hb : base2 ≤ base) : GD w base2 j R L := fun k r p hk hr hp => ⟨row_low (h k r p hk hr hp).1 hb, (h k r p hk hr hp).2⟩
theorem GD.keepS {w : World} {base s1 j : Nat} {R : List Rp} {L : List Pt} (h : GD w base j R L) (hs : s1 < base) (o : Nat) (u : Value) : GD (w.setCell ⟨s1, o, none⟩ u) base j R L := fun k r p hk hr hp => ⟨row_keepS (h k r p hk hr hp).1 hs o u, (h k r p hk hr hp).2⟩
end Go.Proofs.Ytcehklnonhalhaa
