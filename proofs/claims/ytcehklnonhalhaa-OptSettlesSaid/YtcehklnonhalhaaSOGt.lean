/-
  What the proofs of OptSweeps and OptSettles need: Gt Gv.
-/
import Derived.Test.YtcehklnonhalhaaSOGr
namespace Go.Proofs.Ytcehklnonhalhaa
open Go.RowKit
set_option linter.unusedVariables false
set_option maxRecDepth 4000

set_option maxHeartbeats 1000000 in
theorem rints_as {A C : Option Addr} {n c k d : Nat} {L M : List Int} {w : World} (hL : Is w A n L) (hM : Is w C k M) (hn : n ≤ 1000000) (v : Bool) (hv : (L == M) = v) :
    Calls Try.prog 33 #[.slice A n c, .slice C k d] w fun e w' => e = .returned (.bool v) ∧ Below w.heap.size w w' := by
  have HV := Lib.hid hv
  have HL := Lib.hid hL.1
  have HM := Lib.hid hM.1
  clear hv
  go_enter Try.func33, Try.ntmps33
  by_cases e : n = k
  case neg =>
    have e0 : ¬ k = n := fun h => e h.symm
    have e1 : (((n : Nat) : Int) != (k : Int)) = true := by simp; omega
    have HE := Lib.hid (len_no (L := L) (M := M) (by rw [HL.out, HM.out]; exact e))
    go_wp2_with fail
    go_ret
    exact ⟨ret_bool (by rw [← HV.out, HE.out]), Below.refl _ _⟩
  subst e
  have e1 : (((n : Nat) : Int) != (n : Int)) = false := by simp
  go_wp2_with fail
  go_loopw [5] (fun i wr => ∃ j : Nat, j ≤ n ∧ i = .int .i64 j ∧ L.take j = M.take j ∧ Below w.heap.size w wr) (fun i _ => n - (intOf i).toNat)
  case atStart => exact ⟨0, Nat.zero_le _, rfl, rfl, Below.refl _ _⟩
  case round =>
    obtain ⟨j, hj, rfl, hp, BW⟩ := hrel
    have HP := Lib.hid hp
    clear hp
    by_cases hlt : j < n
    · obtain ⟨b0, off, x, eA, HX, cx⟩ := (hL.on BW).at hlt
      obtain ⟨b1, off1, y, eC, HY, cy⟩ := (hM.on BW).at hlt
      subst eA
      have hjn : (j : Int) < (n : Int) := by omega
      have hj0 : (0 : Int) ≤ (j : Int) := by omega
      try subst eC
      by_cases e : x = y
      · subst e
        have HT := Lib.hid (pref_succ HP.out HX.out HY.out)
        go_wp2_with fail
        go_region
        go_wp2_with fail
        go_roundw
        case rel => exact ⟨j + 1, by omega, by go_num, HT.out, BW.drew⟩
        case measure => simp [intOf]; omega
      · have HE := Lib.hid (pref_no HX.out HY.out e)
        have e1 : (x != y) = true := by simp [e]
        go_wp2_with fail
        go_region
        go_wp2_with fail
        go_ret
        exact ⟨ret_bool (by rw [← HV.out, HE.out]), BW.drew⟩
    · obtain rfl : j = n := by omega
      have HE := Lib.hid (pref_end HL.out HM.out HP.out)
      go_wp2_with fail
      go_ret
      exact ⟨ret_bool (by rw [← HV.out, HE.out]), BW⟩
/-- a port that lies so. -/
structure PtAt (w : World) (b o : Nat) (nm : ByteArray) (A : Option Addr) (m c : Nat) (bs : List Int) : Prop where
  lt : b < w.heap.size
  c1 : w.cell? ⟨b, o, none⟩ = some (.string nm)
  c2 : w.cell? ⟨b, o + 1, none⟩ = some (.slice A m c)
  bits : Is w A m bs
theorem PtAt.on {w w' : World} {b o : Nat} {nm : ByteArray} {A : Option Addr} {m c : Nat} {bs : List Int} (h : PtAt w b o nm A m c bs) (hb : Below w.heap.size w w') : PtAt w' b o nm A m c bs :=
  ⟨Nat.lt_of_lt_of_le h.lt hb.size, (hb.cell (p := ⟨b, o, none⟩) h.lt).trans h.c1, (hb.cell (p := ⟨b, o + 1, none⟩) h.lt).trans h.c2, h.bits.on hb⟩
set_option maxHeartbeats 2000000 in
theorem rports_as {A C : Option Addr} {n c k d : Nat} {L M : List Pt} {w : World} (hL : Ps w A n L) (hM : Ps w C k M) (hn : n ≤ 1000000) (hb : ∀ p ∈ L, p.bits.length ≤ 1000000) (v : Bool) (hv : sameL L M = v) :
    Calls Try.prog 60 #[.slice A n c, .slice C k d] w fun e w' => e = .returned (.bool v) ∧ Below w.heap.size w w' := by
  have HV := Lib.hid hv
  have HB := Lib.hid hb
  have HL := Lib.hid hL.1
  have HM := Lib.hid hM.1
  clear hv hb
  go_enter Try.func60, Try.ntmps60
  by_cases e : n = k
  case neg =>
    have e0 : ¬ k = n := fun h => e h.symm
    have e1 : (((n : Nat) : Int) != (k : Int)) = true := by simp; omega
    have HE := Lib.hid (sameL_no (L := L) (M := M) (by rw [HL.out, HM.out]; exact e))
    go_wp2_with fail
    go_ret
    exact ⟨ret_bool (by rw [← HV.out, HE.out]), Below.refl _ _⟩
  subst e
  have e1 : (((n : Nat) : Int) != (n : Int)) = false := by simp
  go_wp2_with fail
  go_loopw [5] (fun i wr => ∃ j : Nat, j ≤ n ∧ i = .int .i64 j ∧ (List.range j).all (sameAt L M) = true ∧ Below w.heap.size w wr) (fun i _ => n - (intOf i).toNat)
  case atStart => exact ⟨0, Nat.zero_le _, rfl, rfl, Below.refl _ _⟩
  case round =>
    obtain ⟨j, hj, rfl, hp, BW⟩ := hrel
    have HP := Lib.hid hp
    clear hp
    by_cases hlt : j < n
    · obtain ⟨b0, off, nm, A', m, c', bs, eA, hbw, HX, k1, k2, hi⟩ := (hL.on BW).at0 hlt
      obtain ⟨b1, off1, nq, C', m1, d', bt, eC, hbw1, HY, l1, l2, hi1⟩ := (hM.on BW).at0 hlt
      subst eA
      have hjn : (j : Int) < (n : Int) := by omega
      have hj0 : (0 : Int) ≤ (j : Int) := by omega
      try subst eC
      have hm : m ≤ 1000000 := by rw [← hi.1]; exact HB.out _ (List.mem_of_getElem? HX.out)
      have hP : PtAt wr b0 (off + j * 2) nm A' m c' bs := ⟨hbw, k1, k2, hi⟩
      have hQ : PtAt wr b1 (off1 + j * 2) nq C' m1 d' bt := ⟨hbw1, l1, l2, hi1⟩
      clear hi hi1
      obtain ⟨u, hu⟩ : ∃ u, (nm.toList == nq.toList) = u := ⟨_, rfl⟩
      obtain ⟨x, hx⟩ : ∃ x, (bs == bt) = x := ⟨_, rfl⟩
      have HX2 := Lib.hid hx
      clear hx
      cases u
      · have HE := Lib.hid (sameL_at HX.out HY.out (show sameP ⟨nm, bs⟩ ⟨nq, bt⟩ = false by unfold sameP; simp only [hu, Bool.false_and]))
        have hu' : (nm.toList != nq.toList) = true := by simp only [bne, hu, Bool.not_false]
        go_wp2_with fail
        go_region
        go_wp2_with fail
        go_ret
        exact ⟨ret_bool (by rw [← HV.out, HE.out]), BW.drew⟩
      · have hu' : (nm.toList != nq.toList) = false := by simp only [bne, hu, Bool.not_true]
        have HS : Hid (sameP ⟨nm, bs⟩ ⟨nq, bt⟩ = x) := Lib.hid (by unfold sameP; simp only [hu, Bool.true_and]; exact HX2.out)
        go_wp2_with fail
        have b : Below wr.heap.size wr wr.drew := (Below.refl _ _).drew
        replace hP := hP.on b
        replace hQ := hQ.on b
        have BB := Below.step BW b
        clear BW
        have BW := Lib.hid BB
        clear b BB k1 k2 l1 l2
        go_region_held3 (fun w' => w'.cell? ⟨b0, off + j * 2, none⟩ = some (.string nm) ∧ w'.cell? ⟨b0, off + j * 2 + 1, none⟩ = some (.slice A' m c') ∧ w'.cell? ⟨b1, off1 + j * 2, none⟩ = some (.string nq) ∧ w'.cell? ⟨b1, off1 + j * 2 + 1, none⟩ = some (.slice C' m1 d'))
          ((with_reducible exact ⟨hP.c1, hP.c2, hQ.c1, hQ.c2⟩))
          (first
            | (go_at_call 33
               (with_reducible refine (rints_as hP.bits hQ.bits hm x HX2.out).mono ?_)
               rintro en w4 ⟨rfl, b⟩
               replace hP := hP.on b
               replace hQ := hQ.on b
               replace BW := Lib.hid (Below.step BW.out b)
               clear b))
        replace BW := BW.out
        cases x
        · have HE := Lib.hid (sameL_at HX.out HY.out HS.out)
          go_wp2_with fail
          go_ret
          exact ⟨ret_bool (by rw [← HV.out, HE.out]), BW⟩
        · have HT := Lib.hid (sameAt_succ HX.out HY.out HS.out HP.out)
          go_wp2_with fail
          go_roundw
          case rel => exact ⟨j + 1, by omega, by go_num, HT.out, BW⟩
          case measure => simp [intOf]; omega
    · obtain rfl : j = n := by omega
      have HE := Lib.hid (sameL_end HL.out HM.out HP.out)
      go_wp2_with fail
      go_ret
      exact ⟨ret_bool (by rw [← HV.out, HE.out]), BW⟩
set_option maxHeartbeats 4000000 in
/-- THE REFERENCE'S SAME NETS. -/
theorem rsame_as {An Ai Ao Bn Bi Bo : Option Addr} {nn cn ni ci no co mn dn mi di mo do' : Nat} {N N' : List Nd} {I I' O O' : List Pt} {w : World} (h : Nt w An nn cn Ai ni ci Ao no co N I O) (h' : Nt w Bn mn dn Bi mi di Bo mo do' N' I' O') (v : Bool) (hv : sameS N N' I I' O O' = v) :
    Calls Try.prog 32 #[.agg #[.slice An nn cn, .slice Ai ni ci, .slice Ao no co], .agg #[.slice Bn mn dn, .slice Bi mi di, .slice Bo mo do']] w fun e w' => e = .returned (.bool v) ∧ Below w.heap.size w w' := by
  have HV := Lib.hid hv
  clear hv
  go_enter Try.func32, Try.ntmps32
  go_upto_region 1 with fail
  obtain ⟨w1, e_w1⟩ : ∃ w', w.alloc (.cells #[.slice An nn cn, .slice Ai ni ci, .slice Ao no co] 25) = w' := ⟨_, rfl⟩
  have z0 : Bx w1 w.heap.size [.slice An nn cn, .slice Ai ni ci, .slice Ao no co] := e_w1 ▸ Bx.made_k w rfl #[.slice An nn cn, .slice Ai ni ci, .slice Ao no co] 25
  have b1 : Below w.heap.size w w1 := e_w1 ▸ below_lit _ _
  have hs1 : w1.heap.size = w.heap.size + 1 := e_w1 ▸ size_lit w _ rfl
  rw [e_w1]
  clear e_w1
  obtain ⟨w2, e_w2⟩ : ∃ w', w1.alloc (.cells #[.slice Bn mn dn, .slice Bi mi di, .slice Bo mo do'] 25) = w' := ⟨_, rfl⟩
  have z1 : Bx w2 (w.heap.size + 1) [.slice Bn mn dn, .slice Bi mi di, .slice Bo mo do'] := e_w2 ▸ Bx.made_k w1 hs1 #[.slice Bn mn dn, .slice Bi mi di, .slice Bo mo do'] 25
  have b2 : Below w1.heap.size w1 w2 := e_w2 ▸ below_lit _ _
  rw [e_w2]
  clear e_w2
  replace z0 := z0.on b2
  have BW := Below.step b1 b2
  replace h := h.on BW
  replace h' := h'.on BW
  have hn1 : nn ≤ 1000000 := by have := h.hn; omega
  have hn2 : ni ≤ 1000000 := by have := h.hs; omega
  have hn3 : no ≤ 1000000 := by have := h.hs; omega
  have HB2 : Hid (∀ p ∈ I, p.bits.length ≤ 1000000) := Lib.hid fun p hp => h.hb p (List.mem_append_left _ hp)
  have HB3 : Hid (∀ p ∈ O, p.bits.length ≤ 1000000) := Lib.hid fun p hp => h.hb p (List.mem_append_right _ hp)
  have HL := Lib.hid h.n.1
  have HM := Lib.hid h'.n.1
  have z0c0 := z0.2 0 _ rfl
  have z1c0 := z1.2 0 _ rfl
  by_cases e : nn = mn
  case neg =>
    have e0 : ¬ mn = nn := fun h => e h.symm
    have e1 : (((nn : Nat) : Int) != (mn : Int)) = true := by simp; omega
    have HE := Lib.hid (len_no (L := N) (M := N') (by rw [HL.out, HM.out]; exact e))
    have HE2 : Hid (sameS N N' I I' O O' = false) := Lib.hid (by unfold sameS; rw [HE.out]; rfl)
    go_wp2_with fail
    go_ret
    exact ⟨ret_bool (by rw [← HV.out, HE2.out]), BW⟩
  subst e
  have e1 : (((nn : Nat) : Int) != (nn : Int)) = false := by simp
  go_wp2_with fail
  clear z0c0 z1c0
  go_loopw [5] (fun i wr => ∃ j : Nat, j ≤ nn ∧ i = .int .i64 j ∧ N.take j = N'.take j ∧ Below w2.heap.size w2 wr) (fun i _ => nn - (intOf i).toNat)
  case atStart => exact ⟨0, Nat.zero_le _, rfl, rfl, Below.refl _ _⟩
  case round =>
    obtain ⟨j, hj, rfl, hp, BR⟩ := hrel
    have HP := Lib.hid hp
    clear hp
    have z0c0 := (z0.on BR).2 0 _ rfl
    have z1c0 := (z1.on BR).2 0 _ rfl
    by_cases hlt : j < nn
    · obtain ⟨b0, off, x1, x2, x3, x4, eA, HX, n1, n2, n3, n4⟩ := (h.n.on BR).at hlt
      obtain ⟨b1, off1, y1, y2, y3, y4, eC, HY, m1, m2, m3, m4⟩ := (h'.n.on BR).at hlt
      subst eA
      have hjn : (j : Int) < (nn : Int) := by omega
      have hj0 : (0 : Int) ≤ (j : Int) := by omega
      try subst eC
      by_cases e : (⟨x1, x2, x3, x4⟩ : Nd) = ⟨y1, y2, y3, y4⟩
      · injection e with e1 e2 e3 e4
        subst e1 e2 e3 e4
        have HT := Lib.hid (pref_succ HP.out HX.out HY.out)
        go_wp2_with fail
        go_region
        go_wp2_with fail
        go_roundw
        case rel => exact ⟨j + 1, by omega, by go_num, HT.out, BR.drew⟩
        case measure => simp [intOf]; omega
      · have HE := Lib.hid (pref_no HX.out HY.out e)
        have HE2 : Hid (sameS N N' I I' O O' = false) := Lib.hid (by unfold sameS; rw [HE.out]; rfl)
        by_cases h1 : x1 = y1
        case neg =>
          go_wp2_with fail
          go_region
          go_wp2_with fail
          go_ret
          exact ⟨ret_bool (by rw [← HV.out, HE2.out]), Below.step BW BR.drew⟩
        subst h1
        by_cases h2 : x2 = y2
        case neg =>
          go_wp2_with fail
          go_region
          go_wp2_with fail
          go_ret
          exact ⟨ret_bool (by rw [← HV.out, HE2.out]), Below.step BW BR.drew⟩
        subst h2
        by_cases h3 : x3 = y3
        case neg =>
          go_wp2_with fail
          go_region
          go_wp2_with fail
          go_ret
          exact ⟨ret_bool (by rw [← HV.out, HE2.out]), Below.step BW BR.drew⟩
        subst h3
        by_cases h4 : x4 = y4
        case neg =>
          go_wp2_with fail
          go_region
          go_wp2_with fail
          go_ret
          exact ⟨ret_bool (by rw [← HV.out, HE2.out]), Below.step BW BR.drew⟩
        subst h4
        exact absurd rfl e
    · obtain rfl : j = nn := by omega
      have HE := Lib.hid (pref_end HL.out HM.out HP.out)
      have z0c1 := (z0.on BR).2 1 _ rfl
      have z1c1 := (z1.on BR).2 1 _ rfl
      obtain ⟨u2, hu2⟩ : ∃ u, sameL I I' = u := ⟨_, rfl⟩
      obtain ⟨u3, hu3⟩ : ∃ u, sameL O O' = u := ⟨_, rfl⟩
      have H2 := Lib.hid hu2
      have H3 := Lib.hid hu3
      clear hu2 hu3
      cases u2
      · have HE2 : Hid (v = false) := Lib.hid (by rw [← HV.out]; unfold sameS; rw [HE.out, H2.out]; rfl)
        go_wp2_with (go_at_call 60; refine (rports_as (h.i.on BR) (h'.i.on BR) hn2 HB2.out false H2.out).mono ?_; rintro e w4 ⟨rfl, b4⟩; have b24 := Below.step BR b4; have B4 := Below.step BW b24; have z0w41 := (z0.on b24).2 1 _ rfl; have z0w42 := (z0.on b24).2 2 _ rfl; have z1w41 := (z1.on b24).2 1 _ rfl; have z1w42 := (z1.on b24).2 2 _ rfl)
        go_ret
        exact ⟨ret_bool HE2.out.symm, B4⟩
      · have HE2 : Hid (v = u3) := Lib.hid (by rw [← HV.out]; unfold sameS; rw [HE.out, H2.out, H3.out]; rfl)
        go_wp2_with (first | (go_at_call 60; refine (rports_as (h.o.on b24) (h'.o.on b24) hn3 HB3.out u3 H3.out).mono ?_; rintro e w5 ⟨rfl, b5⟩; have B5 := Below.step B4 b5) | (go_at_call 60; refine (rports_as (h.i.on BR) (h'.i.on BR) hn2 HB2.out true H2.out).mono ?_; rintro e w4 ⟨rfl, b4⟩; have b24 := Below.step BR b4; have B4 := Below.step BW b24; have z0w41 := (z0.on b24).2 1 _ rfl; have z0w42 := (z0.on b24).2 2 _ rfl; have z1w41 := (z1.on b24).2 1 _ rfl; have z1w42 := (z1.on b24).2 2 _ rfl))
        go_ret
        exact ⟨ret_bool HE2.out.symm, B5⟩
end Go.Proofs.Ytcehklnonhalhaa
namespace Go.Proofs.Ytcehklnonhalhaa
open Go.RowKit
set_option linter.unusedVariables false
set_option maxRecDepth 4000

/-- bits and letters of the first k ports. -/
def sumS (L : List Pt) (k : Nat) : Nat := ((L.take k).map fun p => p.bits.length + p.name.size).sum
theorem sum_succ {L : List Pt} {k : Nat} {p : Pt} (h : L[k]? = some p) : sumS L (k + 1) = sumS L k + (p.bits.length + p.name.size) := by
  unfold sumS
  rw [List.take_add_one, h]
  simp
theorem sum_le (L : List Pt) (B : Nat) (h : ∀ p ∈ L, p.bits.length ≤ B ∧ p.name.size ≤ B) (k : Nat) : sumS L k ≤ k * (2 * B) := by
  induction k with
  | zero => simp [sumS]
  | succ k ih =>
    cases hk : L[k]? with
    | none =>
      have : sumS L (k + 1) = sumS L k := by unfold sumS; rw [List.take_add_one, hk]; simp
      rw [this, Nat.succ_mul]
      omega
    | some p =>
      rw [sum_succ hk, Nat.succ_mul]
      have := h p (List.mem_of_getElem? hk)
      omega
theorem sum_all {L : List Pt} {j k : Nat} (h : L.length ≤ j) (hk : L.length ≤ k) : sumS L j = sumS L k := by
  unfold sumS
  rw [List.take_of_length_le h, List.take_of_length_le hk]
theorem mem_sum : ∀ (L : List Nat) (x : Nat), x ∈ L → x ≤ L.sum := by
  intro L
  induction L with
  | nil => intro x h; cases h
  | cons y L ih =>
    intro x h
    rw [List.sum_cons]
    rcases List.mem_cons.1 h with rfl | h
    · omega
    · have := ih x h
      omega
theorem sum_mem {L : List Pt} {p : Pt} (h : p ∈ L) {k : Nat} (hk : L.length ≤ k) : p.bits.length + p.name.size ≤ sumS L k := by
  unfold sumS
  rw [List.take_of_length_le hk]
  have : p.bits.length + p.name.size ∈ L.map fun p => p.bits.length + p.name.size := List.mem_map.2 ⟨p, h, rfl⟩
  exact mem_sum _ _ this
def largeS (nn ni no : Nat) (I O : List Pt) (M : Nat) : Bool := decide ((M : Int) < (nn : Int)) || (decide (66 < ni) || (decide (66 < no) || decide (4000 < sumS I 70 + sumS O 70)))
/-- a net that isn't large. -/
theorem large_no {nn ni no : Nat} {I O : List Pt} {M : Nat} (h : largeS nn ni no I O M = false) (hi : I.length = ni) (ho : O.length = no) : nn ≤ M ∧ ni ≤ 66 ∧ no ≤ 66 ∧ ∀ p ∈ I ++ O, p.bits.length ≤ 4000 ∧ p.name.size ≤ 4000 := by
  unfold largeS at h
  simp only [Bool.or_eq_false_iff, decide_eq_false_iff_not] at h
  obtain ⟨h1, h2, h3, h4⟩ := h
  refine ⟨by omega, by omega, by omega, fun p hp => ?_⟩
  rcases List.mem_append.1 hp with hp | hp
  · have := sum_mem hp (show I.length ≤ 70 by omega)
    omega
  · have := sum_mem hp (show O.length ≤ 70 by omega)
    omega
set_option maxHeartbeats 8000000 in
/-- THE REFERENCE'S LARGE. -/
theorem rlarge_as {An Ai Ao : Option Addr} {nn cn ni ci no co : Nat} {I O : List Pt} {w : World} (hI : Ps w Ai ni I) (hO : Ps w Ao no O) (hn : nn ≤ 140737488351232) (hni : ni ≤ 140737488351232) (hno : no ≤ 140737488351232)
    (hbI : ∀ p ∈ I, p.bits.length ≤ 140737488351232 ∧ p.name.size ≤ 140737488351232) (hbO : ∀ p ∈ O, p.bits.length ≤ 140737488351232 ∧ p.name.size ≤ 140737488351232) (M : Nat) (hM : M ≤ 1000) (v : Bool) (hv : largeS nn ni no I O M = v) :
    Calls Try.prog 20 #[.agg #[.slice An nn cn, .slice Ai ni ci, .slice Ao no co], .int .i64 M] w fun e w' => e = .returned (.bool v) ∧ Below w.heap.size w w' := by
  have HV := Lib.hid hv
  have HBI := Lib.hid hbI
  have HBO := Lib.hid hbO
  clear hv hbI hbO
  go_enter Try.func20, Try.ntmps20
  go_upto_region 1 with fail
  obtain ⟨w1, e_w1⟩ : ∃ w', w.alloc (.cells #[.slice An nn cn, .slice Ai ni ci, .slice Ao no co] 25) = w' := ⟨_, rfl⟩
  have z0 : Bx w1 w.heap.size [.slice An nn cn, .slice Ai ni ci, .slice Ao no co] := e_w1 ▸ Bx.made_k w rfl #[.slice An nn cn, .slice Ai ni ci, .slice Ao no co] 25
  have BW : Below w.heap.size w w1 := e_w1 ▸ below_lit _ _
  rw [e_w1]
  clear e_w1
  replace hI := hI.on BW
  replace hO := hO.on BW
  go_wp2_with fail
  go_loopw [5, 6] (fun c i wr => ∃ j cc : Nat, j ≤ ni ∧ j ≤ 70 ∧ i = .int .i64 j ∧ c = .int .i64 cc ∧ cc = 0 + sumS I j ∧ Below w1.heap.size w1 wr) (fun _ i _ => ni - (intOf i).toNat)
  case atStart => exact ⟨0, 0, Nat.zero_le _, Nat.zero_le _, rfl, rfl, by simp [sumS], Below.refl _ _⟩
  case round =>
    obtain ⟨j, cc, hj, hj7, rfl, rfl, hcc, BR⟩ := hrel
    have HC := Lib.hid hcc
    have hcb : cc ≤ 0 + j * 281474976702464 := by
      have := sum_le I 140737488351232 HBI.out j
      omega
    clear hcc
    have z0c1 := (z0.on BR).2 1 _ rfl
    by_cases hlt : j < ni
    · by_cases h70 : j < 70
      · obtain ⟨b0, off, nm, A', m, c', bs, eA, hbw, HX, k1, k2, hi⟩ := (hI.on BR).at0 hlt
        subst eA
        obtain ⟨sz, hsz⟩ : ∃ sz, nm.size = sz := ⟨_, rfl⟩
        have HS := Lib.hid (sum_succ HX.out)
        have HM := Lib.hid (HBI.out _ (List.mem_of_getElem? HX.out))
        have hm : m ≤ 140737488351232 := by rw [← hi.1]; exact HM.out.1
        have hs : sz ≤ 140737488351232 := by rw [← hsz]; exact HM.out.2
        have HMb := Lib.hid hi.1
        have HZ := Lib.hid hsz
        obtain ⟨q, hq⟩ : ∃ q, m + sz = q := ⟨_, rfl⟩
        obtain ⟨t, ht⟩ : ∃ t, cc + q = t := ⟨_, rfl⟩
        have HT : Hid (t = 0 + sumS I (j + 1)) := Lib.hid (by rw [HS.out, ← ht, HC.out, ← hq, ← hsz, ← hi.1]; show 0 + sumS I j + (bs.length + nm.size) = 0 + (sumS I j + (bs.length + nm.size)); omega)
        have e1 : (m : Int) + (sz : Int) = (q : Int) := by omega
        have e2 : (cc : Int) + (q : Int) = (t : Int) := by omega
        have hjn : (j : Int) < (ni : Int) := by omega
        have hj0 : (0 : Int) ≤ (j : Int) := by omega
        have hj70 : (j : Int) < 70 := by omega
        have hqb : q ≤ 281474976702464 := by omega
        have htb : t ≤ 60000000000000000 := by omega
        clear hi HS HM HC hq ht
        go_wp2_with fail
        go_region
        go_wp2_with fail
        go_roundw
        case rel => exact ⟨j + 1, t, by omega, by omega, by go_num, rfl, HT.out, BR.drew⟩
        case measure => simp [intOf]; omega
      · have HE : Hid (cc = 0 + sumS I 70) := Lib.hid (by rw [HC.out, show j = 70 by omega])
        have hjn : (j : Int) < (ni : Int) := by omega
        have hj70 : ¬ (j : Int) < 70 := by omega
        clear HC
        go_wp2_with fail
        obtain ⟨cc0, hcc0⟩ : ∃ x, cc = x := ⟨_, rfl⟩
        rw [hcc0] at hcb ⊢
        have HC1 : Hid (cc0 = sumS I 70) := Lib.hid (by have := HE.out; omega)
        clear hcc0
        obtain ⟨w7, rfl⟩ : ∃ x, x = wr := ⟨_, rfl⟩
        have hc1b : cc0 ≤ 19703248369172480 := by
          have := sum_le I 140737488351232 HBI.out 70
          have := HC1.out
          omega
        replace hO := hO.on BR
        replace z0 := z0.on BR
        have B8 := Below.step BW BR
        clear BR z0c1 HE
        go_loopw [5, 7] (fun c i wr => ∃ j cc : Nat, j ≤ no ∧ j ≤ 70 ∧ i = .int .i64 j ∧ c = .int .i64 cc ∧ cc = cc0 + sumS O j ∧ Below w7.heap.size w7 wr) (fun _ i _ => no - (intOf i).toNat)
        case atStart => exact ⟨0, cc0, Nat.zero_le _, Nat.zero_le _, rfl, rfl, by simp [sumS], Below.refl _ _⟩
        case round =>
          obtain ⟨j, cc, hj, hj7, rfl, rfl, hcc, BR⟩ := hrel
          have HC := Lib.hid hcc
          have hcb : cc ≤ cc0 + j * 281474976702464 := by
            have := sum_le O 140737488351232 HBO.out j
            omega
          clear hcc
          have z0c1 := (z0.on BR).2 2 _ rfl
          by_cases hlt : j < no
          · by_cases h70 : j < 70
            · obtain ⟨b0, off, nm, A', m, c', bs, eA, hbw, HX, k1, k2, hi⟩ := (hO.on BR).at0 hlt
              subst eA
              obtain ⟨sz, hsz⟩ : ∃ sz, nm.size = sz := ⟨_, rfl⟩
              have HS := Lib.hid (sum_succ HX.out)
              have HM := Lib.hid (HBO.out _ (List.mem_of_getElem? HX.out))
              have hm : m ≤ 140737488351232 := by rw [← hi.1]; exact HM.out.1
              have hs : sz ≤ 140737488351232 := by rw [← hsz]; exact HM.out.2
              have HMb := Lib.hid hi.1
              have HZ := Lib.hid hsz
              obtain ⟨q, hq⟩ : ∃ q, m + sz = q := ⟨_, rfl⟩
              obtain ⟨t, ht⟩ : ∃ t, cc + q = t := ⟨_, rfl⟩
              have HT : Hid (t = cc0 + sumS O (j + 1)) := Lib.hid (by rw [HS.out, ← ht, HC.out, ← hq, ← hsz, ← hi.1]; show cc0 + sumS O j + (bs.length + nm.size) = cc0 + (sumS O j + (bs.length + nm.size)); omega)
              have e1 : (m : Int) + (sz : Int) = (q : Int) := by omega
              have e2 : (cc : Int) + (q : Int) = (t : Int) := by omega
              have hjn : (j : Int) < (no : Int) := by omega
              have hj0 : (0 : Int) ≤ (j : Int) := by omega
              have hj70 : (j : Int) < 70 := by omega
              have hqb : q ≤ 281474976702464 := by omega
              have htb : t ≤ 60000000000000000 := by omega
              clear hi HS HM HC hq ht
              go_wp2_with fail
              go_region
              go_wp2_with fail
              go_roundw
              case rel => exact ⟨j + 1, t, by omega, by omega, by go_num, rfl, HT.out, BR.drew⟩
              case measure => simp [intOf]; omega
            · have HE : Hid (cc = cc0 + sumS O 70) := Lib.hid (by rw [HC.out, show j = 70 by omega])
              have hjn : (j : Int) < (no : Int) := by omega
              have hj70 : ¬ (j : Int) < 70 := by omega
              clear HC

              have z0c0 := (z0.on BR).2 0 _ rfl
              have z0c1' := (z0.on BR).2 1 _ rfl
              have B9 := Below.step B8 BR
              have HW : Hid (v = largeS nn ni no I O M) := Lib.hid HV.out.symm
              have HE3 : Hid (cc = sumS I 70 + sumS O 70) := Lib.hid (by rw [HE.out, HC1.out])
              by_cases g0 : (M : Int) < (nn : Int)
              case pos =>
                first
                  | (exfalso; omega)
                  | (have HF : Hid (v = true) := Lib.hid (by rw [HW.out]; have := HE3.out; unfold largeS; simp; omega)
                     go_wp2_with fail
                     go_ret
                     exact ⟨ret_bool HF.out.symm, B9⟩)
              by_cases g1 : (66 : Int) < (ni : Int)
              case pos =>
                first
                  | (exfalso; omega)
                  | (have HF : Hid (v = true) := Lib.hid (by rw [HW.out]; have := HE3.out; unfold largeS; simp; omega)
                     go_wp2_with fail
                     go_ret
                     exact ⟨ret_bool HF.out.symm, B9⟩)
              by_cases g2 : (66 : Int) < (no : Int)
              case pos =>
                first
                  | (exfalso; omega)
                  | (have HF : Hid (v = true) := Lib.hid (by rw [HW.out]; have := HE3.out; unfold largeS; simp; omega)
                     go_wp2_with fail
                     go_ret
                     exact ⟨ret_bool HF.out.symm, B9⟩)
              by_cases g3 : (4000 : Int) < (cc : Int)
              case pos =>
                first
                  | (exfalso; omega)
                  | (have HF : Hid (v = true) := Lib.hid (by rw [HW.out]; have := HE3.out; unfold largeS; simp; omega)
                     go_wp2_with fail
                     go_ret
                     exact ⟨ret_bool HF.out.symm, B9⟩)
              first
                | (exfalso; omega)
                | (have HF : Hid (v = false) := Lib.hid (by rw [HW.out]; have := HE3.out; unfold largeS; simp; omega)
                   go_wp2_with fail
                   go_ret
                   exact ⟨ret_bool HF.out.symm, B9⟩)
          · have HE : Hid (cc = cc0 + sumS O 70) := Lib.hid (by
              have hl := hO.1
              rw [HC.out, sum_all (L := O) (by omega) (show O.length ≤ 70 by omega)])
            have hjn : ¬ (j : Int) < (no : Int) := by omega
            clear HC

            have z0c0 := (z0.on BR).2 0 _ rfl
            have z0c1' := (z0.on BR).2 1 _ rfl
            have B9 := Below.step B8 BR
            have HW : Hid (v = largeS nn ni no I O M) := Lib.hid HV.out.symm
            have HE3 : Hid (cc = sumS I 70 + sumS O 70) := Lib.hid (by rw [HE.out, HC1.out])
            by_cases g0 : (M : Int) < (nn : Int)
            case pos =>
              first
                | (exfalso; omega)
                | (have HF : Hid (v = true) := Lib.hid (by rw [HW.out]; have := HE3.out; unfold largeS; simp; omega)
                   go_wp2_with fail
                   go_ret
                   exact ⟨ret_bool HF.out.symm, B9⟩)
            by_cases g1 : (66 : Int) < (ni : Int)
            case pos =>
              first
                | (exfalso; omega)
                | (have HF : Hid (v = true) := Lib.hid (by rw [HW.out]; have := HE3.out; unfold largeS; simp; omega)
                   go_wp2_with fail
                   go_ret
                   exact ⟨ret_bool HF.out.symm, B9⟩)
            by_cases g2 : (66 : Int) < (no : Int)
            case pos =>
              first
                | (exfalso; omega)
                | (have HF : Hid (v = true) := Lib.hid (by rw [HW.out]; have := HE3.out; unfold largeS; simp; omega)
                   go_wp2_with fail
                   go_ret
                   exact ⟨ret_bool HF.out.symm, B9⟩)
            by_cases g3 : (4000 : Int) < (cc : Int)
            case pos =>
              first
                | (exfalso; omega)
                | (have HF : Hid (v = true) := Lib.hid (by rw [HW.out]; have := HE3.out; unfold largeS; simp; omega)
                   go_wp2_with fail
                   go_ret
                   exact ⟨ret_bool HF.out.symm, B9⟩)
            first
              | (exfalso; omega)
              | (have HF : Hid (v = false) := Lib.hid (by rw [HW.out]; have := HE3.out; unfold largeS; simp; omega)
                 go_wp2_with fail
                 go_ret
                 exact ⟨ret_bool HF.out.symm, B9⟩)
    · have HE : Hid (cc = 0 + sumS I 70) := Lib.hid (by
        have hl := hI.1
        rw [HC.out, sum_all (L := I) (by omega) (show I.length ≤ 70 by omega)])
      have hjn : ¬ (j : Int) < (ni : Int) := by omega
      clear HC
      go_wp2_with fail
      obtain ⟨cc0, hcc0⟩ : ∃ x, cc = x := ⟨_, rfl⟩
      rw [hcc0] at hcb ⊢
      have HC1 : Hid (cc0 = sumS I 70) := Lib.hid (by have := HE.out; omega)
      clear hcc0
      obtain ⟨w7, rfl⟩ : ∃ x, x = wr := ⟨_, rfl⟩
      have hc1b : cc0 ≤ 19703248369172480 := by
        have := sum_le I 140737488351232 HBI.out 70
        have := HC1.out
        omega
      replace hO := hO.on BR
      replace z0 := z0.on BR
      have B8 := Below.step BW BR
      clear BR z0c1 HE
      go_loopw [5, 7] (fun c i wr => ∃ j cc : Nat, j ≤ no ∧ j ≤ 70 ∧ i = .int .i64 j ∧ c = .int .i64 cc ∧ cc = cc0 + sumS O j ∧ Below w7.heap.size w7 wr) (fun _ i _ => no - (intOf i).toNat)
      case atStart => exact ⟨0, cc0, Nat.zero_le _, Nat.zero_le _, rfl, rfl, by simp [sumS], Below.refl _ _⟩
      case round =>
        obtain ⟨j, cc, hj, hj7, rfl, rfl, hcc, BR⟩ := hrel
        have HC := Lib.hid hcc
        have hcb : cc ≤ cc0 + j * 281474976702464 := by
          have := sum_le O 140737488351232 HBO.out j
          omega
        clear hcc
        have z0c1 := (z0.on BR).2 2 _ rfl
        by_cases hlt : j < no
        · by_cases h70 : j < 70
          · obtain ⟨b0, off, nm, A', m, c', bs, eA, hbw, HX, k1, k2, hi⟩ := (hO.on BR).at0 hlt
            subst eA
            obtain ⟨sz, hsz⟩ : ∃ sz, nm.size = sz := ⟨_, rfl⟩
            have HS := Lib.hid (sum_succ HX.out)
            have HM := Lib.hid (HBO.out _ (List.mem_of_getElem? HX.out))
            have hm : m ≤ 140737488351232 := by rw [← hi.1]; exact HM.out.1
            have hs : sz ≤ 140737488351232 := by rw [← hsz]; exact HM.out.2
            have HMb := Lib.hid hi.1
            have HZ := Lib.hid hsz
            obtain ⟨q, hq⟩ : ∃ q, m + sz = q := ⟨_, rfl⟩
            obtain ⟨t, ht⟩ : ∃ t, cc + q = t := ⟨_, rfl⟩
            have HT : Hid (t = cc0 + sumS O (j + 1)) := Lib.hid (by rw [HS.out, ← ht, HC.out, ← hq, ← hsz, ← hi.1]; show cc0 + sumS O j + (bs.length + nm.size) = cc0 + (sumS O j + (bs.length + nm.size)); omega)
            have e1 : (m : Int) + (sz : Int) = (q : Int) := by omega
            have e2 : (cc : Int) + (q : Int) = (t : Int) := by omega
            have hjn : (j : Int) < (no : Int) := by omega
            have hj0 : (0 : Int) ≤ (j : Int) := by omega
            have hj70 : (j : Int) < 70 := by omega
            have hqb : q ≤ 281474976702464 := by omega
            have htb : t ≤ 60000000000000000 := by omega
            clear hi HS HM HC hq ht
            go_wp2_with fail
            go_region
            go_wp2_with fail
            go_roundw
            case rel => exact ⟨j + 1, t, by omega, by omega, by go_num, rfl, HT.out, BR.drew⟩
            case measure => simp [intOf]; omega
          · have HE : Hid (cc = cc0 + sumS O 70) := Lib.hid (by rw [HC.out, show j = 70 by omega])
            have hjn : (j : Int) < (no : Int) := by omega
            have hj70 : ¬ (j : Int) < 70 := by omega
            clear HC

            have z0c0 := (z0.on BR).2 0 _ rfl
            have z0c1' := (z0.on BR).2 1 _ rfl
            have B9 := Below.step B8 BR
            have HW : Hid (v = largeS nn ni no I O M) := Lib.hid HV.out.symm
            have HE3 : Hid (cc = sumS I 70 + sumS O 70) := Lib.hid (by rw [HE.out, HC1.out])
            by_cases g0 : (M : Int) < (nn : Int)
            case pos =>
              first
                | (exfalso; omega)
                | (have HF : Hid (v = true) := Lib.hid (by rw [HW.out]; have := HE3.out; unfold largeS; simp; omega)
                   go_wp2_with fail
                   go_ret
                   exact ⟨ret_bool HF.out.symm, B9⟩)
            by_cases g1 : (66 : Int) < (ni : Int)
            case pos =>
              first
                | (exfalso; omega)
                | (have HF : Hid (v = true) := Lib.hid (by rw [HW.out]; have := HE3.out; unfold largeS; simp; omega)
                   go_wp2_with fail
                   go_ret
                   exact ⟨ret_bool HF.out.symm, B9⟩)
            by_cases g2 : (66 : Int) < (no : Int)
            case pos =>
              first
                | (exfalso; omega)
                | (have HF : Hid (v = true) := Lib.hid (by rw [HW.out]; have := HE3.out; unfold largeS; simp; omega)
                   go_wp2_with fail
                   go_ret
                   exact ⟨ret_bool HF.out.symm, B9⟩)
            by_cases g3 : (4000 : Int) < (cc : Int)
            case pos =>
              first
                | (exfalso; omega)
                | (have HF : Hid (v = true) := Lib.hid (by rw [HW.out]; have := HE3.out; unfold largeS; simp; omega)
                   go_wp2_with fail
                   go_ret
                   exact ⟨ret_bool HF.out.symm, B9⟩)
            first
              | (exfalso; omega)
              | (have HF : Hid (v = false) := Lib.hid (by rw [HW.out]; have := HE3.out; unfold largeS; simp; omega)
                 go_wp2_with fail
                 go_ret
                 exact ⟨ret_bool HF.out.symm, B9⟩)
        · have HE : Hid (cc = cc0 + sumS O 70) := Lib.hid (by
            have hl := hO.1
            rw [HC.out, sum_all (L := O) (by omega) (show O.length ≤ 70 by omega)])
          have hjn : ¬ (j : Int) < (no : Int) := by omega
          clear HC

          have z0c0 := (z0.on BR).2 0 _ rfl
          have z0c1' := (z0.on BR).2 1 _ rfl
          have B9 := Below.step B8 BR
          have HW : Hid (v = largeS nn ni no I O M) := Lib.hid HV.out.symm
          have HE3 : Hid (cc = sumS I 70 + sumS O 70) := Lib.hid (by rw [HE.out, HC1.out])
          by_cases g0 : (M : Int) < (nn : Int)
          case pos =>
            first
              | (exfalso; omega)
              | (have HF : Hid (v = true) := Lib.hid (by rw [HW.out]; have := HE3.out; unfold largeS; simp; omega)
                 go_wp2_with fail
                 go_ret
                 exact ⟨ret_bool HF.out.symm, B9⟩)
          by_cases g1 : (66 : Int) < (ni : Int)
          case pos =>
            first
              | (exfalso; omega)
              | (have HF : Hid (v = true) := Lib.hid (by rw [HW.out]; have := HE3.out; unfold largeS; simp; omega)
                 go_wp2_with fail
                 go_ret
                 exact ⟨ret_bool HF.out.symm, B9⟩)
          by_cases g2 : (66 : Int) < (no : Int)
          case pos =>
            first
              | (exfalso; omega)
              | (have HF : Hid (v = true) := Lib.hid (by rw [HW.out]; have := HE3.out; unfold largeS; simp; omega)
                 go_wp2_with fail
                 go_ret
                 exact ⟨ret_bool HF.out.symm, B9⟩)
          by_cases g3 : (4000 : Int) < (cc : Int)
          case pos =>
            first
              | (exfalso; omega)
              | (have HF : Hid (v = true) := Lib.hid (by rw [HW.out]; have := HE3.out; unfold largeS; simp; omega)
                 go_wp2_with fail
                 go_ret
                 exact ⟨ret_bool HF.out.symm, B9⟩)
          first
            | (exfalso; omega)
            | (have HF : Hid (v = false) := Lib.hid (by rw [HW.out]; have := HE3.out; unfold largeS; simp; omega)
               go_wp2_with fail
               go_ret
               exact ⟨ret_bool HF.out.symm, B9⟩)
end Go.Proofs.Ytcehklnonhalhaa
