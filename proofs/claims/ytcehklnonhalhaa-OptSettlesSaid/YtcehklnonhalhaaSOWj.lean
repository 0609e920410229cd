/-
  What the proofs of OptSweeps and OptSettles need: Wj.
-/
import Derived.Test.YtcehklnonhalhaaSOYo
import Derived.Deep.RegionHeld3
namespace Go.Proofs.Ytcehklnonhalhaa
open Go.RowKit
set_option linter.unusedVariables false
set_option maxRecDepth 4000

/-- what a clone is: nodes below s, in-ports from s to s2, out-ports above s2. -/
def ClE (w : World) (nn ni no : Nat) (N : List Nd) (I O : List Pt) (en : Ending) (w' : World) : Prop := ∃ (Bn : Option Addr) (dn : Nat) (Bi : Option Addr) (di : Nat) (Bo : Option Addr) (do' : Nat) (s s2 : Nat) (Ri Ro : List Rp), en = .returned (.agg #[.slice Bn nn dn, .slice Bi ni di, .slice Bo no do']) ∧ w'.ownsRow w.heap.size 43 4 (.slice Bn nn dn) nn (N.flatMap ndC) ∧ (∀ g, (Value.slice Bn nn dn).ownBlock = some g → g < s) ∧ Sw Bn nn dn ∧ Sw Bi ni di ∧ Sw Bo no do' ∧ s ≤ s2 ∧ w.heap.size ≤ s ∧ s2 ≤ w'.heap.size
  ∧ w'.ownsRow s 41 2 (.slice Bi ni di) ni (Ri.flatMap ptC) ∧ (∀ g, (Value.slice Bi ni di).ownBlock = some g → g < s2) ∧ Ri.length = ni ∧ (∀ (k : Nat) (r : Rp) (p : Pt), Ri[k]? = some r → I[k]? = some p → r.name = p.name) ∧ GD w' s ni Ri I ∧ (∀ (k : Nat) (r : Rp), Ri[k]? = some r → ∀ b, (Value.slice r.A r.m r.c).ownBlock = some b → b < s2)
  ∧ w'.ownsRow s2 41 2 (.slice Bo no do') no (Ro.flatMap ptC) ∧ Ro.length = no ∧ (∀ (k : Nat) (r : Rp) (p : Pt), Ro[k]? = some r → O[k]? = some p → r.name = p.name) ∧ GD w' s2 no Ro O ∧ Below w.heap.size w w'
set_option maxHeartbeats 4000000 in
/-- CLONE, with all ports' bits in blocks of their own. -/
theorem cloneE_as {An Ai Ao : Option Addr} {nn cn ni ci no co : Nat} {N : List Nd} {I O : List Pt} {w : World} (h : Nt w An nn cn Ai ni ci Ao no co N I O) (sn : Sw An nn cn) (hb : ∀ p ∈ I ++ O, p.bits.length ≤ 100000) :
    Calls Try.prog 40 #[.agg #[.slice An nn cn, .slice Ai ni ci, .slice Ao no co]] w (ClE w nn ni no N I O) := by
  have hb1 : Hid (∀ p ∈ I, p.bits.length ≤ 100000) := Lib.hid fun p hp => hb p (List.mem_append_left _ hp)
  have hb2 : Hid (∀ p ∈ O, p.bits.length ≤ 100000) := Lib.hid fun p hp => hb p (List.mem_append_right _ hp)
  clear hb
  have hn1 : nn ≤ 100000 := by have := h.hn; omega
  have hn2 : ni ≤ 1000 := by have := h.hs; omega
  have hn3 : no ≤ 1000 := by have := h.hs; omega
  go_enter Try.func40, Try.ntmps40
  go_upto_region 1 with fail
  obtain ⟨w1, e_w1⟩ : ∃ w', w.alloc (.cells #[.slice An nn cn, .slice Ai ni ci, .slice Ao no co] 25) = w' := ⟨_, rfl⟩
  have z0 : Bx w1 w.heap.size [.slice An nn cn, .slice Ai ni ci, .slice Ao no co] := e_w1 ▸ Bx.made_k w rfl #[.slice An nn cn, .slice Ai ni ci, .slice Ao no co] 25
  have b1 : Below w.heap.size w w1 := e_w1 ▸ below_lit _ _
  have hs1 : w1.heap.size = w.heap.size + 1 := e_w1 ▸ size_lit w _ rfl
  rw [e_w1]
  clear e_w1
  obtain ⟨s1, hs0⟩ : ∃ s1, w.heap.size + 1 = s1 := ⟨_, rfl⟩
  rw [hs0] at hs1 ⊢
  obtain ⟨w2, e_w2⟩ : ∃ w', w1.alloc (.cells #[.slice none 0 0, .slice none 0 0, .slice none 0 0] 25) = w' := ⟨_, rfl⟩
  have z1 : Bx w2 s1 [.slice none 0 0, .slice none 0 0, .slice none 0 0] := e_w2 ▸ Bx.made_k w1 hs1 #[.slice none 0 0, .slice none 0 0, .slice none 0 0] 25
  have ZR : Own w2 s1 25 [.slice none 0 0, .slice none 0 0, .slice none 0 0] := by rw [← hs1]; exact e_w2 ▸ Own.made w1 25 [.slice none 0 0, .slice none 0 0, .slice none 0 0]
  have b2 : Below w1.heap.size w1 w2 := e_w2 ▸ below_lit _ _
  rw [e_w2]
  clear e_w2 hs1
  replace z0 := z0.on b2
  have BW := Below.step b1 b2
  replace h := h.on BW
  clear b1 b2
  have b : Below w2.heap.size w2 w2.drew := (Below.refl _ _).drew
  replace h := h.on b
  replace z0 := z0.on b
  replace z1 := z1.on b
  replace ZR := ZR.below b ZR.lt
  have BB := Below.step BW b
  clear BW
  have BW := Lib.hid BB
  clear b BB
  have hne : w.heap.size ≠ s1 := by omega
  have hs2 := ZR.lt
  go_region_held3 (fun w' => w'.cell? ⟨w.heap.size, 0, none⟩ = some (.slice An nn cn) ∧ w'.cell? ⟨w.heap.size, 1, none⟩ = some (.slice Ai ni ci) ∧ w'.cell? ⟨w.heap.size, 2, none⟩ = some (.slice Ao no co) ∧ w'.cell? ⟨s1, 0, none⟩ = some (valAt w' s1 0) ∧ w'.cell? ⟨s1, 1, none⟩ = some (valAt w' s1 1) ∧ w'.cell? ⟨s1, 2, none⟩ = some (valAt w' s1 2) ∧ w'.frozen? ⟨s1, 0, none⟩ = false ∧ w'.frozen? ⟨s1, 1, none⟩ = false ∧ w'.frozen? ⟨s1, 2, none⟩ = false)
    ((first | with_reducible exact stS z0 ZR | exact stS (((z0.apart hne 0 _).apart hne 1 _).apart hne 2 _) (((ZR.put 0 _).put 1 _).put 2 _)))
    (first
    | (go_at_call 67
       (with_reducible refine (cloneN_as h.n sn hn1).mono ?_)
       rintro en w3 ⟨vN, rfl, hrow, b⟩
       replace h := h.on b
       replace z0 := z0.on b
       replace z1 := z1.on b
       replace ZR := ZR.below b ZR.lt
       replace BW := Lib.hid (Below.step BW.out b)
       have hlN := Lib.hid hrow.lt
       have hs3 := ZR.lt
       obtain ⟨Bn, dn, rfl, swn, hln, _⟩ := row_at hrow
       clear b)
    | (go_at_call 68
       (with_reducible refine (clonePortsD_as h.i h.si hn2 hb1.out).mono ?_)
       rintro en w4 ⟨Bi, di, Ri, rfl, hrowI, hRil, hRin, hGDi, b⟩
       have hIlt := Lib.hid hrowI.lt
       have hGIl := Lib.hid hGDi
       replace h := h.on b
       replace z0 := z0.on b
       replace z1 := z1.on b
       replace ZR := ZR.below b ZR.lt
       replace BW := Lib.hid (Below.step BW.out b)
       replace hrow := row_on hrow b
       have hs34 := b.size
       have hIL := Lib.hid h.i.1
       clear b)
    | (go_at_call 68
       (with_reducible refine (clonePortsD_as h.o h.so hn3 hb2.out).mono ?_)
       rintro en w5 ⟨Bo, do', Ro, rfl, hrowO, hRl, hRn, hGD, b⟩
       replace h := h.on b
       replace z0 := z0.on b
       replace z1 := z1.on b
       replace ZR := ZR.below b ZR.lt
       replace BW := Lib.hid (Below.step BW.out b)
       replace hrow := row_on hrow b
       replace hrowI := row_on hrowI b
       replace hGDi := hGDi.on b
       have hb5 := b
       have hs45 := b.size
       clear b))
  all_goals replace BW := BW.out
  have hs2' : w.heap.size ≤ w2.drew.heap.size := Nat.le_trans (by omega) (Nat.le_of_lt hs2)
  have VR := ((ZR.put 0 (.slice Bn nn dn)).put 1 (.slice Bi ni di)).put 2 (.slice Bo no do')
  have p0 := VR.cell 0
  have p1 := VR.cell 1
  have p2 := VR.cell 2
  have hrow6 : (((w5.setCell ⟨s1, 0, none⟩ (.slice Bn nn dn)).setCell ⟨s1, 1, none⟩ (.slice Bi ni di)).setCell ⟨s1, 2, none⟩ (.slice Bo no do')).ownsRow w.heap.size 43 4 (.slice Bn nn dn) nn (N.flatMap ndC) := by
    have hk : (Value.slice Bn nn dn).ownBlock = none ∨ (Value.slice Bn nn dn).ownBlock ≠ some s1 := by
      right
      intro e
      have := (hlN.out _ e).1
      omega
    exact row_low (((hrow.kept (grown_set _ _ _) hk).kept (grown_set _ _ _) hk).kept (grown_set _ _ _) hk) hs2'
  have hs4 : s1 < w4.heap.size := by omega
  have hrowO6 := row_keepS (row_keepS (row_keepS hrowO hs4 0 (.slice Bn nn dn)) hs4 1 (.slice Bi ni di)) hs4 2 (.slice Bo no do')
  have hGD6 := ((hGD.keepS hs4 0 (.slice Bn nn dn)).keepS hs4 1 (.slice Bi ni di)).keepS hs4 2 (.slice Bo no do')
  have hs3' : s1 < w3.heap.size := by omega
  have hrowI6 := row_keepS (row_keepS (row_keepS hrowI hs3' 0 (.slice Bn nn dn)) hs3' 1 (.slice Bi ni di)) hs3' 2 (.slice Bo no do')
  have hGDi6 := ((hGDi.keepS hs3' 0 (.slice Bn nn dn)).keepS hs3' 1 (.slice Bi ni di)).keepS hs3' 2 (.slice Bo no do')
  have hlow : ∀ (k : Nat) (r : Rp), Ri[k]? = some r → ∀ b, (Value.slice r.A r.m r.c).ownBlock = some b → b < w4.heap.size := fun k r hr b e => by
    have hk : k < ni := by rw [← hRil]; exact (List.getElem?_eq_some_iff.1 hr).1
    obtain ⟨p, hp⟩ := look_ex hIL.out hk
    exact ((hGIl.out k r p hk hr hp).1.lt b e).2
  have hsz : w4.heap.size ≤ (((w5.setCell ⟨s1, 0, none⟩ (.slice Bn nn dn)).setCell ⟨s1, 1, none⟩ (.slice Bi ni di)).setCell ⟨s1, 2, none⟩ (.slice Bo no do')).heap.size := by simpa using hs45
  obtain ⟨Bo', do2, eBo, swo, _⟩ := row_at hrowO
  injection eBo with eBo _ eBo2
  subst eBo eBo2
  obtain ⟨Bi', di2, eBi, swi, _⟩ := row_at hrowI
  injection eBi with eBi _ eBi2
  subst eBi eBi2
  have hws : w.heap.size ≤ s1 := by omega
  have BW6 := ((BW.setCell (p := ⟨s1, 0, none⟩) hws (.slice Bn nn dn)).setCell (p := ⟨s1, 1, none⟩) hws (.slice Bi ni di)).setCell (p := ⟨s1, 2, none⟩) hws (.slice Bo no do')
  clear hrow hrowI hGDi hrowO hGD BW hb5
  go_wp2_with fail
  refine bodyPost_ret (v := .agg #[.slice Bn nn dn, .slice Bi ni di, .slice Bo no do']) (by simp [results, Try.results40, go_sem, p0, p1, p2]) rfl ?_
  unfold ClE
  exact ⟨Bn, dn, Bi, di, Bo, do', w3.heap.size, w4.heap.size, Ri, Ro, rfl, hrow6, fun g e => (hlN.out g e).2, swn, swi, swo, hs34, by omega, hsz, hrowI6, fun g e => (hIlt.out g e).2, hRil, hRin, hGDi6, hlow, hrowO6, hRl, hRn, hGD6, BW6⟩
end Go.Proofs.Ytcehklnonhalhaa
