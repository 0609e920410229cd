
/-
  The reference of layer 6: Ints, ports, Same.
-/
import Derived.Test.YtcfmgoilncninaaGs
namespace Go.Proofs.Ytcfmgoilncninaa
open Go.RowKit
set_option linter.unusedVariables false
set_option maxRecDepth 4000

set_option maxHeartbeats 1000000 in
theorem rints_as {A C : Option Addr} {n c k d : Nat} {L M : List Int} {w : World} (hL : Is w A n L) (hM : Is w C k M) (hn : n ≤ 1000000) (v : Bool) (hv : (L == M) = v) :
    Calls Try.prog 153 #[.slice A n c, .slice C k d] w fun e w' => e = .returned (.bool v) ∧ Below w.heap.size w w' := by
  have HV := Lib.hid hv
  have HL := Lib.hid hL.1
  have HM := Lib.hid hM.1
  clear hv
  go_enter Try.func153, Try.ntmps153
  by_cases e : n = k
  case neg =>
    have e0 : ¬ k = n := fun h => e h.symm
    have e1 : (((n : Nat) : Int) != (k : Int)) = true := by simp; omega
    have HE := Lib.hid (len_no (L := L) (M := M) (by rw [HL.out, HM.out]; exact e))
    go_wp2_with fail
    go_ret
    exact ⟨ret_bool (by rw [← HV.out, HE.out]), Below.refl _ _⟩
  subst e
  have e1 : (((n : Nat) : Int) != (n : Int)) = false := by simp
  go_wp2_with fail
  go_loopw [5] (fun i wr => ∃ j : Nat, j ≤ n ∧ i = .int .i64 j ∧ L.take j = M.take j ∧ Below w.heap.size w wr) (fun i _ => n - (intOf i).toNat)
  case atStart => exact ⟨0, Nat.zero_le _, rfl, rfl, Below.refl _ _⟩
  case round =>
    obtain ⟨j, hj, rfl, hp, BW⟩ := hrel
    have HP := Lib.hid hp
    clear hp
    by_cases hlt : j < n
    · obtain ⟨b0, off, x, eA, HX, cx⟩ := (hL.on BW).at hlt
      obtain ⟨b1, off1, y, eC, HY, cy⟩ := (hM.on BW).at hlt
      subst eA
      have hjn : (j : Int) < (n : Int) := by omega
      have hj0 : (0 : Int) ≤ (j : Int) := by omega
      try subst eC
      by_cases e : x = y
      · subst e
        have HT := Lib.hid (pref_succ HP.out HX.out HY.out)
        go_wp2_with fail
        go_region
        go_wp2_with fail
        go_roundw
        case rel => exact ⟨j + 1, by omega, by go_num, HT.out, BW.drew⟩
        case measure => simp [intOf]; omega
      · have HE := Lib.hid (pref_no HX.out HY.out e)
        have e1 : (x != y) = true := by simp [e]
        go_wp2_with fail
        go_region
        go_wp2_with fail
        go_ret
        exact ⟨ret_bool (by rw [← HV.out, HE.out]), BW.drew⟩
    · obtain rfl : j = n := by omega
      have HE := Lib.hid (pref_end HL.out HM.out HP.out)
      go_wp2_with fail
      go_ret
      exact ⟨ret_bool (by rw [← HV.out, HE.out]), BW⟩
/-- a port that lies so. -/
structure PtAt (w : World) (b o : Nat) (nm : ByteArray) (A : Option Addr) (m c : Nat) (bs : List Int) : Prop where
  lt : b < w.heap.size
  c1 : w.cell? ⟨b, o, none⟩ = some (.string nm)
  c2 : w.cell? ⟨b, o + 1, none⟩ = some (.slice A m c)
  bits : Is w A m bs
theorem PtAt.on {w w' : World} {b o : Nat} {nm : ByteArray} {A : Option Addr} {m c : Nat} {bs : List Int} (h : PtAt w b o nm A m c bs) (hb : Below w.heap.size w w') : PtAt w' b o nm A m c bs :=
  ⟨Nat.lt_of_lt_of_le h.lt hb.size, (hb.cell (p := ⟨b, o, none⟩) h.lt).trans h.c1, (hb.cell (p := ⟨b, o + 1, none⟩) h.lt).trans h.c2, h.bits.on hb⟩
set_option maxHeartbeats 2000000 in
theorem rports_as {A C : Option Addr} {n c k d : Nat} {L M : List Pt} {w : World} (hL : Ps w A n L) (hM : Ps w C k M) (hn : n ≤ 1000000) (hb : ∀ p ∈ L, p.bits.length ≤ 1000000) (v : Bool) (hv : sameL L M = v) :
    Calls Try.prog 137 #[.slice A n c, .slice C k d] w fun e w' => e = .returned (.bool v) ∧ Below w.heap.size w w' := by
  have HV := Lib.hid hv
  have HB := Lib.hid hb
  have HL := Lib.hid hL.1
  have HM := Lib.hid hM.1
  clear hv hb
  go_enter Try.func137, Try.ntmps137
  by_cases e : n = k
  case neg =>
    have e0 : ¬ k = n := fun h => e h.symm
    have e1 : (((n : Nat) : Int) != (k : Int)) = true := by simp; omega
    have HE := Lib.hid (sameL_no (L := L) (M := M) (by rw [HL.out, HM.out]; exact e))
    go_wp2_with fail
    go_ret
    exact ⟨ret_bool (by rw [← HV.out, HE.out]), Below.refl _ _⟩
  subst e
  have e1 : (((n : Nat) : Int) != (n : Int)) = false := by simp
  go_wp2_with fail
  go_loopw [5] (fun i wr => ∃ j : Nat, j ≤ n ∧ i = .int .i64 j ∧ (List.range j).all (sameAt L M) = true ∧ Below w.heap.size w wr) (fun i _ => n - (intOf i).toNat)
  case atStart => exact ⟨0, Nat.zero_le _, rfl, rfl, Below.refl _ _⟩
  case round =>
    obtain ⟨j, hj, rfl, hp, BW⟩ := hrel
    have HP := Lib.hid hp
    clear hp
    by_cases hlt : j < n
    · obtain ⟨b0, off, nm, A', m, c', bs, eA, hbw, HX, k1, k2, hi⟩ := (hL.on BW).at0 hlt
      obtain ⟨b1, off1, nq, C', m1, d', bt, eC, hbw1, HY, l1, l2, hi1⟩ := (hM.on BW).at0 hlt
      subst eA
      have hjn : (j : Int) < (n : Int) := by omega
      have hj0 : (0 : Int) ≤ (j : Int) := by omega
      try subst eC
      have hm : m ≤ 1000000 := by rw [← hi.1]; exact HB.out _ (List.mem_of_getElem? HX.out)
      have hP : PtAt wr b0 (off + j * 2) nm A' m c' bs := ⟨hbw, k1, k2, hi⟩
      have hQ : PtAt wr b1 (off1 + j * 2) nq C' m1 d' bt := ⟨hbw1, l1, l2, hi1⟩
      clear hi hi1
      obtain ⟨u, hu⟩ : ∃ u, (nm.toList == nq.toList) = u := ⟨_, rfl⟩
      obtain ⟨x, hx⟩ : ∃ x, (bs == bt) = x := ⟨_, rfl⟩
      have HX2 := Lib.hid hx
      clear hx
      cases u
      · have HE := Lib.hid (sameL_at HX.out HY.out (show sameP ⟨nm, bs⟩ ⟨nq, bt⟩ = false by unfold sameP; simp only [hu, Bool.false_and]))
        have hu' : (nm.toList != nq.toList) = true := by simp only [bne, hu, Bool.not_false]
        go_wp2_with fail
        go_region
        go_wp2_with fail
        go_ret
        exact ⟨ret_bool (by rw [← HV.out, HE.out]), BW.drew⟩
      · have hu' : (nm.toList != nq.toList) = false := by simp only [bne, hu, Bool.not_true]
        have HS : Hid (sameP ⟨nm, bs⟩ ⟨nq, bt⟩ = x) := Lib.hid (by unfold sameP; simp only [hu, Bool.true_and]; exact HX2.out)
        go_wp2_with fail
        have b : Below wr.heap.size wr wr.drew := (Below.refl _ _).drew
        replace hP := hP.on b
        replace hQ := hQ.on b
        have BB := Below.step BW b
        clear BW
        have BW := Lib.hid BB
        clear b BB k1 k2 l1 l2
        go_region_held3 (fun w' => w'.cell? ⟨b0, off + j * 2, none⟩ = some (.string nm) ∧ w'.cell? ⟨b0, off + j * 2 + 1, none⟩ = some (.slice A' m c') ∧ w'.cell? ⟨b1, off1 + j * 2, none⟩ = some (.string nq) ∧ w'.cell? ⟨b1, off1 + j * 2 + 1, none⟩ = some (.slice C' m1 d'))
          ((with_reducible exact ⟨hP.c1, hP.c2, hQ.c1, hQ.c2⟩))
          (first
            | (go_at_call 153
               (with_reducible refine (rints_as hP.bits hQ.bits hm x HX2.out).mono ?_)
               rintro en w4 ⟨rfl, b⟩
               replace hP := hP.on b
               replace hQ := hQ.on b
               replace BW := Lib.hid (Below.step BW.out b)
               clear b))
        replace BW := BW.out
        cases x
        · have HE := Lib.hid (sameL_at HX.out HY.out HS.out)
          go_wp2_with fail
          go_ret
          exact ⟨ret_bool (by rw [← HV.out, HE.out]), BW⟩
        · have HT := Lib.hid (sameAt_succ HX.out HY.out HS.out HP.out)
          go_wp2_with fail
          go_roundw
          case rel => exact ⟨j + 1, by omega, by go_num, HT.out, BW⟩
          case measure => simp [intOf]; omega
    · obtain rfl : j = n := by omega
      have HE := Lib.hid (sameL_end HL.out HM.out HP.out)
      go_wp2_with fail
      go_ret
      exact ⟨ret_bool (by rw [← HV.out, HE.out]), BW⟩
set_option maxHeartbeats 4000000 in
/-- THE REFERENCE'S SAME NETS. -/
theorem rsame_as {An Ai Ao Bn Bi Bo : Option Addr} {nn cn ni ci no co mn dn mi di mo do' : Nat} {N N' : List Nd} {I I' O O' : List Pt} {w : World} (h : Nt w An nn cn Ai ni ci Ao no co N I O) (h' : Nt w Bn mn dn Bi mi di Bo mo do' N' I' O') (v : Bool) (hv : sameS N N' I I' O O' = v) :
    Calls Try.prog 87 #[.agg #[.slice An nn cn, .slice Ai ni ci, .slice Ao no co], .agg #[.slice Bn mn dn, .slice Bi mi di, .slice Bo mo do']] w fun e w' => e = .returned (.bool v) ∧ Below w.heap.size w w' := by
  have HV := Lib.hid hv
  clear hv
  go_enter Try.func87, Try.ntmps87
  go_upto_region 1 with fail
  obtain ⟨w1, e_w1⟩ : ∃ w', w.alloc (.cells #[.slice An nn cn, .slice Ai ni ci, .slice Ao no co] 52) = w' := ⟨_, rfl⟩
  have z0 : Bx w1 w.heap.size [.slice An nn cn, .slice Ai ni ci, .slice Ao no co] := e_w1 ▸ Bx.made_k w rfl #[.slice An nn cn, .slice Ai ni ci, .slice Ao no co] 52
  have b1 : Below w.heap.size w w1 := e_w1 ▸ below_lit _ _
  have hs1 : w1.heap.size = w.heap.size + 1 := e_w1 ▸ size_lit w _ rfl
  rw [e_w1]
  clear e_w1
  obtain ⟨w2, e_w2⟩ : ∃ w', w1.alloc (.cells #[.slice Bn mn dn, .slice Bi mi di, .slice Bo mo do'] 52) = w' := ⟨_, rfl⟩
  have z1 : Bx w2 (w.heap.size + 1) [.slice Bn mn dn, .slice Bi mi di, .slice Bo mo do'] := e_w2 ▸ Bx.made_k w1 hs1 #[.slice Bn mn dn, .slice Bi mi di, .slice Bo mo do'] 52
  have b2 : Below w1.heap.size w1 w2 := e_w2 ▸ below_lit _ _
  rw [e_w2]
  clear e_w2
  replace z0 := z0.on b2
  have BW := Below.step b1 b2
  replace h := h.on BW
  replace h' := h'.on BW
  have hn1 : nn ≤ 1000000 := by have := h.hn; omega
  have hn2 : ni ≤ 1000000 := by have := h.hs; omega
  have hn3 : no ≤ 1000000 := by have := h.hs; omega
  have HB2 : Hid (∀ p ∈ I, p.bits.length ≤ 1000000) := Lib.hid fun p hp => h.hb p (List.mem_append_left _ hp)
  have HB3 : Hid (∀ p ∈ O, p.bits.length ≤ 1000000) := Lib.hid fun p hp => h.hb p (List.mem_append_right _ hp)
  have HL := Lib.hid h.n.1
  have HM := Lib.hid h'.n.1
  have z0c0 := z0.2 0 _ rfl
  have z1c0 := z1.2 0 _ rfl
  by_cases e : nn = mn
  case neg =>
    have e0 : ¬ mn = nn := fun h => e h.symm
    have e1 : (((nn : Nat) : Int) != (mn : Int)) = true := by simp; omega
    have HE := Lib.hid (len_no (L := N) (M := N') (by rw [HL.out, HM.out]; exact e))
    have HE2 : Hid (sameS N N' I I' O O' = false) := Lib.hid (by unfold sameS; rw [HE.out]; rfl)
    go_wp2_with fail
    go_ret
    exact ⟨ret_bool (by rw [← HV.out, HE2.out]), BW⟩
  subst e
  have e1 : (((nn : Nat) : Int) != (nn : Int)) = false := by simp
  go_wp2_with fail
  clear z0c0 z1c0
  go_loopw [5] (fun i wr => ∃ j : Nat, j ≤ nn ∧ i = .int .i64 j ∧ N.take j = N'.take j ∧ Below w2.heap.size w2 wr) (fun i _ => nn - (intOf i).toNat)
  case atStart => exact ⟨0, Nat.zero_le _, rfl, rfl, Below.refl _ _⟩
  case round =>
    obtain ⟨j, hj, rfl, hp, BR⟩ := hrel
    have HP := Lib.hid hp
    clear hp
    have z0c0 := (z0.on BR).2 0 _ rfl
    have z1c0 := (z1.on BR).2 0 _ rfl
    by_cases hlt : j < nn
    · obtain ⟨b0, off, x1, x2, x3, x4, eA, HX, n1, n2, n3, n4⟩ := (h.n.on BR).at hlt
      obtain ⟨b1, off1, y1, y2, y3, y4, eC, HY, m1, m2, m3, m4⟩ := (h'.n.on BR).at hlt
      subst eA
      have hjn : (j : Int) < (nn : Int) := by omega
      have hj0 : (0 : Int) ≤ (j : Int) := by omega
      try subst eC
      by_cases e : (⟨x1, x2, x3, x4⟩ : Nd) = ⟨y1, y2, y3, y4⟩
      · injection e with e1 e2 e3 e4
        subst e1 e2 e3 e4
        have HT := Lib.hid (pref_succ HP.out HX.out HY.out)
        go_wp2_with fail
        go_region
        go_wp2_with fail
        go_roundw
        case rel => exact ⟨j + 1, by omega, by go_num, HT.out, BR.drew⟩
        case measure => simp [intOf]; omega
      · have HE := Lib.hid (pref_no HX.out HY.out e)
        have HE2 : Hid (sameS N N' I I' O O' = false) := Lib.hid (by unfold sameS; rw [HE.out]; rfl)
        by_cases h1 : x1 = y1
        case neg =>
          go_wp2_with fail
          go_region
          go_wp2_with fail
          go_ret
          exact ⟨ret_bool (by rw [← HV.out, HE2.out]), Below.step BW BR.drew⟩
        subst h1
        by_cases h2 : x2 = y2
        case neg =>
          go_wp2_with fail
          go_region
          go_wp2_with fail
          go_ret
          exact ⟨ret_bool (by rw [← HV.out, HE2.out]), Below.step BW BR.drew⟩
        subst h2
        by_cases h3 : x3 = y3
        case neg =>
          go_wp2_with fail
          go_region
          go_wp2_with fail
          go_ret
          exact ⟨ret_bool (by rw [← HV.out, HE2.out]), Below.step BW BR.drew⟩
        subst h3
        by_cases h4 : x4 = y4
        case neg =>
          go_wp2_with fail
          go_region
          go_wp2_with fail
          go_ret
          exact ⟨ret_bool (by rw [← HV.out, HE2.out]), Below.step BW BR.drew⟩
        subst h4
        exact absurd rfl e
    · obtain rfl : j = nn := by omega
      have HE := Lib.hid (pref_end HL.out HM.out HP.out)
      have z0c1 := (z0.on BR).2 1 _ rfl
      have z1c1 := (z1.on BR).2 1 _ rfl
      obtain ⟨u2, hu2⟩ : ∃ u, sameL I I' = u := ⟨_, rfl⟩
      obtain ⟨u3, hu3⟩ : ∃ u, sameL O O' = u := ⟨_, rfl⟩
      have H2 := Lib.hid hu2
      have H3 := Lib.hid hu3
      clear hu2 hu3
      cases u2
      · have HE2 : Hid (v = false) := Lib.hid (by rw [← HV.out]; unfold sameS; rw [HE.out, H2.out]; rfl)
        go_wp2_with (go_at_call 137; refine (rports_as (h.i.on BR) (h'.i.on BR) hn2 HB2.out false H2.out).mono ?_; rintro e w4 ⟨rfl, b4⟩; have b24 := Below.step BR b4; have B4 := Below.step BW b24; have z0w41 := (z0.on b24).2 1 _ rfl; have z0w42 := (z0.on b24).2 2 _ rfl; have z1w41 := (z1.on b24).2 1 _ rfl; have z1w42 := (z1.on b24).2 2 _ rfl)
        go_ret
        exact ⟨ret_bool HE2.out.symm, B4⟩
      · have HE2 : Hid (v = u3) := Lib.hid (by rw [← HV.out]; unfold sameS; rw [HE.out, H2.out, H3.out]; rfl)
        go_wp2_with (first | (go_at_call 137; refine (rports_as (h.o.on b24) (h'.o.on b24) hn3 HB3.out u3 H3.out).mono ?_; rintro e w5 ⟨rfl, b5⟩; have B5 := Below.step B4 b5) | (go_at_call 137; refine (rports_as (h.i.on BR) (h'.i.on BR) hn2 HB2.out true H2.out).mono ?_; rintro e w4 ⟨rfl, b4⟩; have b24 := Below.step BR b4; have B4 := Below.step BW b24; have z0w41 := (z0.on b24).2 1 _ rfl; have z0w42 := (z0.on b24).2 2 _ rfl; have z1w41 := (z1.on b24).2 1 _ rfl; have z1w42 := (z1.on b24).2 2 _ rfl))
        go_ret
        exact ⟨ret_bool HE2.out.symm, B5⟩
end Go.Proofs.Ytcfmgoilncninaa
