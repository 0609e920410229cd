/-
  What the proofs of ShareSame and ShareLeft need: Gd.
-/
import Derived.Test.YtcehklnonhalhaaSHGc
namespace Go.Proofs.Ytcehklnonhalhaa
open Go.RowKit
set_option linter.unusedVariables false
set_option maxRecDepth 4000

def letterS (c : Int) : Bool := decide (97 ≤ c) && decide (c ≤ 122)
def digitS (c : Int) : Bool := decide (48 ≤ c) && decide (c ≤ 57)
theorem isLetter_f (k : Int) (e : decide (97 ≤ k) = false) (w : World) :
    Calls Try.prog 132 #[.int .u8 k] w fun e w' => e = .returned (.bool false) ∧ Below w.heap.size w w' := by
  go_enter Try.func132, Try.ntmps132
  go_wp2_with fail
  go_ret
  exact ⟨rfl, Below.refl _ _⟩
theorem isLetter_t (k : Int) (v : Bool) (e : decide (97 ≤ k) = true) (e2 : decide (k ≤ 122) = v) (w : World) :
    Calls Try.prog 132 #[.int .u8 k] w fun e w' => e = .returned (.bool v) ∧ Below w.heap.size w w' := by
  go_enter Try.func132, Try.ntmps132
  go_wp2_with fail
  go_ret
  exact ⟨rfl, Below.refl _ _⟩
theorem isLetter_as (k : Int) (v : Bool) (hv : letterS k = v) (w : World) : Calls Try.prog 132 #[.int .u8 k] w fun e w' => e = .returned (.bool v) ∧ Below w.heap.size w w' := by
  unfold letterS at hv
  by_cases h : 97 ≤ k
  · rw [decide_eq_true h, Bool.true_and] at hv
    exact isLetter_t k v (decide_eq_true h) hv w
  · rw [decide_eq_false h, Bool.false_and] at hv
    subst hv
    exact isLetter_f k (decide_eq_false h) w
theorem isDigit_f (k : Int) (e : decide (48 ≤ k) = false) (w : World) :
    Calls Try.prog 133 #[.int .u8 k] w fun e w' => e = .returned (.bool false) ∧ Below w.heap.size w w' := by
  go_enter Try.func133, Try.ntmps133
  go_wp2_with fail
  go_ret
  exact ⟨rfl, Below.refl _ _⟩
theorem isDigit_t (k : Int) (v : Bool) (e : decide (48 ≤ k) = true) (e2 : decide (k ≤ 57) = v) (w : World) :
    Calls Try.prog 133 #[.int .u8 k] w fun e w' => e = .returned (.bool v) ∧ Below w.heap.size w w' := by
  go_enter Try.func133, Try.ntmps133
  go_wp2_with fail
  go_ret
  exact ⟨rfl, Below.refl _ _⟩
theorem isDigit_as (k : Int) (v : Bool) (hv : digitS k = v) (w : World) : Calls Try.prog 133 #[.int .u8 k] w fun e w' => e = .returned (.bool v) ∧ Below w.heap.size w w' := by
  unfold digitS at hv
  by_cases h : 48 ≤ k
  · rw [decide_eq_true h, Bool.true_and] at hv
    exact isDigit_t k v (decide_eq_true h) hv w
  · rw [decide_eq_false h, Bool.false_and] at hv
    subst hv
    exact isDigit_f k (decide_eq_false h) w
/-- a letter of a text. -/
def byS (s : ByteArray) (j : Nat) : Int := if h : j < s.size then (s[j].toNat : Int) else 0
theorem byS_at {s : ByteArray} {j : Nat} (h : j < s.size) : byS s j = (s[j].toNat : Int) := dif_pos h
def otherS (c : Int) : Bool := digitS c || c == 95
def okS (s : ByteArray) (j : Nat) : Bool := letterS (byS s j) || otherS (byS s j)
def resS (s : ByteArray) : Bool := s.toList == [109, 111, 100, 117, 108, 101] || s.toList == [101, 110, 100, 109, 111, 100, 117, 108, 101] || s.toList == [105, 110, 112, 117, 116] || s.toList == [111, 117, 116, 112, 117, 116] || s.toList == [119, 105, 114, 101] || s.toList == [97, 115, 115, 105, 103, 110] || s.toList == [99, 108, 107] || s.toList == [114, 115, 116]
def nameS (s : ByteArray) : Bool := (decide (0 < s.size) && decide (s.size ≤ 20)) && (letterS (byS s 0) && ((List.range s.size).all (okS s) && !resS s))
theorem range_snoc {p : Nat → Bool} {j : Nat} (h : (List.range j).all p = true) (hx : p j = true) : (List.range (j + 1)).all p = true := by
  rw [List.range_succ, List.all_append, h]
  simp [hx]
theorem range_not {p : Nat → Bool} {j n : Nat} (hj : j < n) (hx : p j = false) : (List.range n).all p = false := by
  rw [List.all_eq_false]
  exact ⟨j, List.mem_range.2 hj, by rw [hx]; decide⟩
theorem name_empty (s : ByteArray) (w : World) (h0 : ((s.size : Int) == 0) = true) : Calls Try.prog 120 #[.string s] w fun e w' => e = .returned (.bool false) ∧ Below w.heap.size w w' := by
  go_enter Try.func120, Try.ntmps120
  go_wp2_with fail
  go_ret
  exact ⟨rfl, Below.refl _ _⟩
theorem name_long (s : ByteArray) (w : World) (h0 : ((s.size : Int) == 0) = false) (h20 : decide (20 < (s.size : Int)) = true) : Calls Try.prog 120 #[.string s] w fun e w' => e = .returned (.bool false) ∧ Below w.heap.size w w' := by
  go_enter Try.func120, Try.ntmps120
  go_wp2_with fail
  go_ret
  exact ⟨rfl, Below.refl _ _⟩
theorem name_first (s : ByteArray) (w : World) (h0 : ((s.size : Int) == 0) = false) (h20 : decide (20 < (s.size : Int)) = false) (hs : 0 < s.size) (hl : letterS (s[0].toNat : Int) = false) : Calls Try.prog 120 #[.string s] w fun e w' => e = .returned (.bool false) ∧ Below w.heap.size w w' := by
  go_enter Try.func120, Try.ntmps120
  go_wp2_with fail
  refine (isLetter_as _ false hl _).mono ?_
  rintro en w1 ⟨rfl, BW⟩
  go_wp2_with fail
  go_ret
  exact ⟨rfl, BW⟩
set_option maxHeartbeats 2000000 in
set_option maxRecDepth 10000 in
theorem name_main (s : ByteArray) (w : World) (h0 : ((s.size : Int) == 0) = false) (h20 : decide (20 < (s.size : Int)) = false) (hs : 0 < s.size) (hl : letterS (s[0].toNat : Int) = true) (hs2 : s.size ≤ 20) (v : Bool) (hv : ((List.range s.size).all (okS s) && !resS s) = v) : Calls Try.prog 120 #[.string s] w fun e w' => e = .returned (.bool v) ∧ Below w.heap.size w w' := by
  have HV := Lib.hid hv
  clear hv
  go_enter Try.func120, Try.ntmps120
  go_wp2_with fail
  refine (isLetter_as _ true hl _).mono ?_
  rintro en w1 ⟨rfl, BW⟩
  go_wp2_with fail
  go_loopw [20] (fun i wr => ∃ j : Nat, j ≤ s.size ∧ i = .int .i64 j ∧ (List.range j).all (okS s) = true ∧ Below w.heap.size w wr) (fun i _ => s.size - (intOf i).toNat)
  case atStart => exact ⟨0, Nat.zero_le _, rfl, rfl, BW⟩
  case round =>
    clear BW
    obtain ⟨j, hj, rfl, ha, BW⟩ := hrel
    have HA := Lib.hid ha
    clear ha
    by_cases hlt : j < s.size
    · have HB := Lib.hid (byS_at hlt)
      obtain ⟨x1, hx1⟩ : ∃ x, letterS (s[j].toNat : Int) = x := ⟨_, rfl⟩
      obtain ⟨x2, hx2⟩ : ∃ x, digitS (s[j].toNat : Int) = x := ⟨_, rfl⟩
      obtain ⟨x3, hx3⟩ : ∃ x, ((s[j].toNat : Int) == 95) = x := ⟨_, rfl⟩
      have HO : Hid (okS s j = (x1 || (x2 || x3))) := Lib.hid (by unfold okS otherS; rw [byS_at hlt, hx1, hx2, hx3])
      have hx4 : ((s[j].toNat : Int) != 95) = !x3 := by rw [← hx3]; rfl
      clear hx3
      cases x1
      · cases x2
        · cases x3
          · go_wp2_with fail
            refine (isLetter_as _ false hx1 _).mono ?_
            rintro en w2 ⟨rfl, b⟩
            replace BW := Below.step BW b
            go_wp2_with fail
            refine (isDigit_as _ false hx2 _).mono ?_
            rintro en w3 ⟨rfl, b⟩
            replace BW := Below.step BW b
            go_wp2_with fail
            go_ret
            exact ⟨ret_bool (by rw [← HV.out, range_not hlt HO.out]; rfl), BW⟩
          · go_wp2_with fail
            refine (isLetter_as _ false hx1 _).mono ?_
            rintro en w2 ⟨rfl, b⟩
            replace BW := Below.step BW b
            go_wp2_with fail
            refine (isDigit_as _ false hx2 _).mono ?_
            rintro en w3 ⟨rfl, b⟩
            replace BW := Below.step BW b
            go_wp2_with fail
            go_roundw
            case rel => exact ⟨j + 1, by omega, by go_num, range_snoc HA.out HO.out, BW⟩
            case measure => simp [intOf]; omega
        · go_wp2_with fail
          refine (isLetter_as _ false hx1 _).mono ?_
          rintro en w2 ⟨rfl, b⟩
          replace BW := Below.step BW b
          go_wp2_with fail
          refine (isDigit_as _ true hx2 _).mono ?_
          rintro en w3 ⟨rfl, b⟩
          replace BW := Below.step BW b
          go_wp2_with fail
          go_roundw
          case rel => exact ⟨j + 1, by omega, by go_num, range_snoc HA.out HO.out, BW⟩
          case measure => simp [intOf]; omega
      · go_wp2_with fail
        refine (isLetter_as _ true hx1 _).mono ?_
        rintro en w2 ⟨rfl, b⟩
        replace BW := Below.step BW b
        go_wp2_with fail
        go_roundw
        case rel => exact ⟨j + 1, by omega, by go_num, range_snoc HA.out HO.out, BW⟩
        case measure => simp [intOf]; omega
    · have HT : Hid ((List.range s.size).all (okS s) = true) := by
        have e : j = s.size := by omega
        rw [← e]
        exact HA
      by_cases e0 : (s.toList == [109, 111, 100, 117, 108, 101]) = true
      · have HR : Hid (resS s = true) := Lib.hid (by unfold resS; rw [e0]; simp)
        go_wp2_with fail
        go_ret
        exact ⟨ret_bool (by rw [← HV.out, HT.out, HR.out]; rfl), BW⟩
      replace e0 : (s.toList == [109, 111, 100, 117, 108, 101]) = false := by simpa using e0
      by_cases e1 : (s.toList == [101, 110, 100, 109, 111, 100, 117, 108, 101]) = true
      · have HR : Hid (resS s = true) := Lib.hid (by unfold resS; rw [e1]; simp)
        go_wp2_with fail
        go_ret
        exact ⟨ret_bool (by rw [← HV.out, HT.out, HR.out]; rfl), BW⟩
      replace e1 : (s.toList == [101, 110, 100, 109, 111, 100, 117, 108, 101]) = false := by simpa using e1
      by_cases e2 : (s.toList == [105, 110, 112, 117, 116]) = true
      · have HR : Hid (resS s = true) := Lib.hid (by unfold resS; rw [e2]; simp)
        go_wp2_with fail
        go_ret
        exact ⟨ret_bool (by rw [← HV.out, HT.out, HR.out]; rfl), BW⟩
      replace e2 : (s.toList == [105, 110, 112, 117, 116]) = false := by simpa using e2
      by_cases e3 : (s.toList == [111, 117, 116, 112, 117, 116]) = true
      · have HR : Hid (resS s = true) := Lib.hid (by unfold resS; rw [e3]; simp)
        go_wp2_with fail
        go_ret
        exact ⟨ret_bool (by rw [← HV.out, HT.out, HR.out]; rfl), BW⟩
      replace e3 : (s.toList == [111, 117, 116, 112, 117, 116]) = false := by simpa using e3
      by_cases e4 : (s.toList == [119, 105, 114, 101]) = true
      · have HR : Hid (resS s = true) := Lib.hid (by unfold resS; rw [e4]; simp)
        go_wp2_with fail
        go_ret
        exact ⟨ret_bool (by rw [← HV.out, HT.out, HR.out]; rfl), BW⟩
      replace e4 : (s.toList == [119, 105, 114, 101]) = false := by simpa using e4
      by_cases e5 : (s.toList == [97, 115, 115, 105, 103, 110]) = true
      · have HR : Hid (resS s = true) := Lib.hid (by unfold resS; rw [e5]; simp)
        go_wp2_with fail
        go_ret
        exact ⟨ret_bool (by rw [← HV.out, HT.out, HR.out]; rfl), BW⟩
      replace e5 : (s.toList == [97, 115, 115, 105, 103, 110]) = false := by simpa using e5
      by_cases e6 : (s.toList == [99, 108, 107]) = true
      · have HR : Hid (resS s = true) := Lib.hid (by unfold resS; rw [e6]; simp)
        go_wp2_with fail
        go_ret
        exact ⟨ret_bool (by rw [← HV.out, HT.out, HR.out]; rfl), BW⟩
      replace e6 : (s.toList == [99, 108, 107]) = false := by simpa using e6
      by_cases e7 : (s.toList == [114, 115, 116]) = true
      · have HR : Hid (resS s = true) := Lib.hid (by unfold resS; rw [e7]; simp)
        go_wp2_with fail
        go_ret
        exact ⟨ret_bool (by rw [← HV.out, HT.out, HR.out]; rfl), BW⟩
      replace e7 : (s.toList == [114, 115, 116]) = false := by simpa using e7
      have HR : Hid (resS s = false) := Lib.hid (by unfold resS; rw [e0, e1, e2, e3, e4, e5, e6, e7]; rfl)
      go_wp2_with fail
      go_ret
      exact ⟨ret_bool (by rw [← HV.out, HT.out, HR.out]; rfl), BW⟩
/-- NAME. -/
theorem name_as (s : ByteArray) (v : Bool) (hv : nameS s = v) (w : World) : Calls Try.prog 120 #[.string s] w fun e w' => e = .returned (.bool v) ∧ Below w.heap.size w w' := by
  unfold nameS at hv
  by_cases h0 : 0 < s.size
  · have e0 : ((s.size : Int) == 0) = false := by simp only [beq_eq_false_iff_ne, ne_eq]; omega
    by_cases h20 : s.size ≤ 20
    · have e20 : decide (20 < (s.size : Int)) = false := decide_eq_false (by omega)
      rw [decide_eq_true h0, decide_eq_true h20, byS_at h0] at hv
      obtain ⟨x, hx⟩ : ∃ x, letterS (s[0].toNat : Int) = x := ⟨_, rfl⟩
      rw [hx] at hv
      cases x
      · subst hv
        exact name_first s w e0 e20 h0 hx
      · exact name_main s w e0 e20 h0 hx h20 v hv
    · rw [decide_eq_true h0, decide_eq_false h20] at hv
      subst hv
      exact name_long s w e0 (decide_eq_true (by omega))
  · rw [decide_eq_false h0] at hv
    subst hv
    exact name_empty s w (by simp only [beq_iff_eq]; omega)
theorem Ps.at {w : World} {A : Option Addr} {n : Nat} {L : List Pt} (h : Ps w A n L) {k : Nat} (hk : k < n) : ∃ b off nm A' m c' bs, A = some ⟨b, off, none⟩ ∧ Hid (L[k]? = some ⟨nm, bs⟩) ∧ w.cell? ⟨b, off + k * 2, none⟩ = some (.string nm) ∧ w.cell? ⟨b, off + k * 2 + 1, none⟩ = some (.slice A' m c') ∧ Is w A' m bs := by
  obtain ⟨⟨nm, bs⟩, hx⟩ := look_ex h.1 hk
  obtain ⟨b, off, A', m, c, h1, h2, h3, h4, h5, h6, h7⟩ := h.2 k _ hx
  exact ⟨b, off, nm, A', m, c, bs, h1, Lib.hid hx, h3, h4, h7⟩
set_option maxHeartbeats 1000000 in
/-- ALL PORTS HAVE NAMES. -/
theorem haveNames_as {A : Option Addr} {n c : Nat} {L : List Pt} {w : World} (h : Ps w A n L) (hn : n ≤ 1000000) (v : Bool) (hv : L.all (fun p => nameS p.name) = v) :
    Calls Try.prog 99 #[.slice A n c] w fun e w' => e = .returned (.bool v) ∧ Below w.heap.size w w' := by
  have HV := Lib.hid hv
  clear hv
  go_enter Try.func99, Try.ntmps99
  go_wp2_with fail
  go_loopw [7] (fun i wr => ∃ j : Nat, j ≤ n ∧ i = .int .i64 j ∧ (L.take j).all (fun p => nameS p.name) = true ∧ Below w.heap.size w wr) (fun i _ => n - (intOf i).toNat)
  case atStart => exact ⟨0, Nat.zero_le _, rfl, rfl, Below.refl _ _⟩
  case round =>
    obtain ⟨j, hj, rfl, ha, BW⟩ := hrel
    have HA := Lib.hid ha
    clear ha
    have h1 := h.on BW
    by_cases hlt : j < n
    · obtain ⟨b0, off, nm, A', m, c', bs, rfl, HX, c1, c2, _⟩ := h1.at hlt
      go_upto_region 4 with fail
      clear c1 c2
      obtain ⟨w1, e_w1⟩ : ∃ w', wr.alloc (.cells #[.string nm, .slice A' m c'] 41) = w' := ⟨_, rfl⟩
      have z0 : Bx w1 wr.heap.size [.string nm, .slice A' m c'] := e_w1 ▸ Bx.made_k wr rfl #[.string nm, .slice A' m c'] 41
      have b1 : Below wr.heap.size wr w1 := e_w1 ▸ below_lit _ _
      replace BW := Below.step BW b1
      rw [e_w1]
      clear e_w1
      have z0c0 := z0.2 0 _ rfl
      have z0c1 := z0.2 1 _ rfl
      obtain ⟨u, hu⟩ : ∃ u, nameS nm = u := ⟨_, rfl⟩
      have HU := Lib.hid hu
      cases u
      · have HR := Lib.hid (notall (p := fun p : Pt => nameS p.name) HX.out hu)
        clear hu
        go_wp2_with fail
        refine (name_as nm false HU.out _).mono ?_
        rintro en w9 ⟨rfl, b⟩
        replace BW := Below.step BW b
        go_wp2_with fail
        go_ret
        exact ⟨ret_bool (by rw [← HV.out, HR.out]), BW⟩
      · have HT := Lib.hid (takeall (p := fun p : Pt => nameS p.name) HA.out HX.out hu)
        clear hu
        go_wp2_with fail
        refine (name_as nm true HU.out _).mono ?_
        rintro en w9 ⟨rfl, b⟩
        replace BW := Below.step BW b
        go_wp2_with fail
        go_roundw
        case rel => exact ⟨j + 1, by omega, by go_num, HT.out, BW⟩
        case measure => simp [intOf]; omega
    · have HR : Hid (L.all (fun p => nameS p.name) = true) := by
        have := HA.out
        rw [List.take_of_length_le (by rw [h.1]; omega)] at this
        exact Lib.hid this
      go_wp2_with fail
      go_ret
      exact ⟨ret_bool (by rw [← HV.out, HR.out]), BW⟩
def bitsS (n : Int) (p : Pt) : Bool := decide (p.bits ≠ []) && p.bits.all (placeS n)
theorem Is.at {w : World} {A : Option Addr} {n : Nat} {L : List Int} (h : Is w A n L) {k : Nat} (hk : k < n) : ∃ b off x, A = some ⟨b, off, none⟩ ∧ Hid (L[k]? = some x) ∧ w.cell? ⟨b, off + k, none⟩ = some (.int .i64 x) := by
  obtain ⟨x, hx⟩ := look_ex h.1 hk
  obtain ⟨b, off, h1, h2, h3⟩ := h.2 k _ hx
  exact ⟨b, off, x, h1, Lib.hid hx, h3⟩
set_option maxHeartbeats 2000000 in
/-- ALL PORTS HAVE BITS. -/
theorem haveBits_as {A : Option Addr} {n c : Nat} {L : List Pt} {w : World} (h : Ps w A n L) (hn : n ≤ 1000000) (hb : ∀ p ∈ L, p.bits.length ≤ 1000000) (M : Int) (v : Bool) (hv : L.all (bitsS M) = v) :
    Calls Try.prog 98 #[.slice A n c, .int .i64 M] w fun e w' => e = .returned (.bool v) ∧ Below w.heap.size w w' := by
  have HV := Lib.hid hv
  have HB := Lib.hid hb
  clear hv hb
  go_enter Try.func98, Try.ntmps98
  go_wp2_with fail
  go_loopw [11] (fun i wr => ∃ j : Nat, j ≤ n ∧ i = .int .i64 j ∧ (L.take j).all (bitsS M) = true ∧ Below w.heap.size w wr) (fun i _ => n - (intOf i).toNat)
  case atStart => exact ⟨0, Nat.zero_le _, rfl, rfl, Below.refl _ _⟩
  case round =>
    obtain ⟨j, hj, rfl, ha, BW⟩ := hrel
    have HA := Lib.hid ha
    clear ha
    have h1 := h.on BW
    by_cases hlt : j < n
    · obtain ⟨b0, off, nm, A', m, c', bs, rfl, HX, c1, c2, hi⟩ := h1.at hlt
      have hm : m ≤ 1000000 := by rw [← hi.1]; exact HB.out _ (List.mem_of_getElem? HX.out)
      go_upto_region 4 with fail
      clear c1 c2
      obtain ⟨w1, e_w1⟩ : ∃ w', wr.alloc (.cells #[.string nm, .slice A' m c'] 41) = w' := ⟨_, rfl⟩
      have z0 : Bx w1 wr.heap.size [.string nm, .slice A' m c'] := e_w1 ▸ Bx.made_k wr rfl #[.string nm, .slice A' m c'] 41
      have b1 : Below wr.heap.size wr w1 := e_w1 ▸ below_lit _ _
      replace BW := Below.step BW b1
      rw [e_w1]
      clear e_w1
      have z0c0 := z0.2 0 _ rfl
      have z0c1 := z0.2 1 _ rfl
      replace hi := hi.on b1
      by_cases h0 : m = 0
      · have e0 : ((m : Int) == 0) = true := by simp [h0]
        have HR : Hid (L.all (bitsS M) = false) := Lib.hid (notall HX.out (by
          have : bs = [] := List.eq_nil_of_length_eq_zero (by rw [hi.1]; exact h0)
          unfold bitsS; simp [this]))
        clear h0
        go_wp2_with fail
        go_ret
        exact ⟨ret_bool (by rw [← HV.out, HR.out]), BW⟩
      · have e0 : ((m : Int) == 0) = false := by simp only [beq_eq_false_iff_ne, ne_eq]; omega
        have HNE : Hid (bs ≠ []) := Lib.hid (fun e => h0 (by rw [← hi.1, e]; rfl))
        clear h0
        go_wp2_with fail
        have BW0 := BW
        clear BW b1
        go_loopw [22] (fun i wr => ∃ l : Nat, l ≤ m ∧ i = .int .i64 l ∧ (bs.take l).all (placeS M) = true ∧ Below w1.heap.size w1 wr) (fun i _ => m - (intOf i).toNat)
        case atStart => exact ⟨0, Nat.zero_le _, rfl, rfl, Below.refl _ _⟩
        case round =>
          obtain ⟨l, hl, rfl, ha, BW⟩ := hrel
          have HC := Lib.hid ha
          clear ha
          have hi2 := hi.on BW
          by_cases hlm : l < m
          · obtain ⟨b2, off2, x, rfl, HX2, cx⟩ := hi2.at hlm
            obtain ⟨u, hu⟩ : ∃ u, placeS M x = u := ⟨_, rfl⟩
            have HU := Lib.hid hu
            cases u
            · have HR2 := Lib.hid (notall (p := placeS M) HX2.out hu)
              have HR : Hid (L.all (bitsS M) = false) := Lib.hid (notall HX.out (by unfold bitsS; rw [HR2.out]; simp))
              clear hu
              go_wp2_with fail
              refine (isPlace_as x M false HU.out _).mono ?_
              rintro en w9 ⟨rfl, b⟩
              replace BW := Below.step BW b
              go_wp2_with fail
              go_ret
              exact ⟨ret_bool (by rw [← HV.out, HR.out]), Below.step BW0 BW⟩
            · have HT := Lib.hid (takeall (p := placeS M) HC.out HX2.out hu)
              clear hu
              go_wp2_with fail
              refine (isPlace_as x M true HU.out _).mono ?_
              rintro en w9 ⟨rfl, b⟩
              replace BW := Below.step BW b
              go_wp2_with fail
              go_roundw
              case rel => exact ⟨l + 1, by omega, by go_num, HT.out, BW⟩
              case measure => simp [intOf]; omega
          · have HT : Hid (bitsS M ⟨nm, bs⟩ = true) := by
              have := HC.out
              rw [List.take_of_length_le (by rw [hi.1]; omega)] at this
              exact Lib.hid (by unfold bitsS; rw [this]; simp [HNE.out])
            have HT2 := Lib.hid (takeall (p := bitsS M) HA.out HX.out HT.out)
            go_wp2_with fail
            go_roundw
            case rel => exact ⟨j + 1, by omega, by go_num, HT2.out, Below.step BW0 BW⟩
            case measure => simp [intOf]; omega
    · have HR : Hid (L.all (bitsS M) = true) := by
        have := HA.out
        rw [List.take_of_length_le (by rw [h.1]; omega)] at this
        exact Lib.hid this
      go_wp2_with fail
      go_ret
      exact ⟨ret_bool (by rw [← HV.out, HR.out]), BW⟩
end Go.Proofs.Ytcehklnonhalhaa
