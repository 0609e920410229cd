/-
  What the proofs of OptSweeps and OptSettles need: Vf.
-/
import Derived.Test.YtcehklnonhalhaaSOVc
import Derived.Test.YtcehklnonhalhaaSOYl
namespace Go.Proofs.Ytcehklnonhalhaa
open Go.RowKit
open Go.Maps (Keyed)
set_option linter.unusedVariables false
set_option maxRecDepth 4000

attribute [local go_sem] make_ints
theorem ok_wf {n : Nat} {pos : Nat → Nat} {i : Nat} {x : Nd} (h : Ok (Pr n pos i) x) (hn : n ≤ 100000) : wfN x := by
  have pr : ∀ {y : Int}, Pr n pos i y → -1000000 ≤ y ∧ y ≤ 1000000 := fun h => by have h1 := h.1; have h2 := h.2.1; omega
  refine wfN_of fun v hv => ?_
  simp only [List.mem_cons, List.not_mem_nil, or_false] at hv
  rcases h.kd with ⟨e, h1, h2, h3⟩ | ⟨e, h1, h2, h3⟩ | ⟨e, h1, h2, h3⟩ | ⟨e, h1, h2, h3⟩
  · rcases hv with rfl | rfl | rfl | rfl <;> omega
  · rcases hv with rfl | rfl | rfl | rfl
    · omega
    · exact pr h1
    · omega
    · omega
  · rcases hv with rfl | rfl | rfl | rfl
    · omega
    · exact pr h1
    · exact pr h2
    · omega
  · rcases hv with rfl | rfl | rfl | rfl
    · omega
    · exact pr h1
    · exact pr h2
    · exact pr h3
/-- what is known of the node that is looked at. -/
theorem SI.look {N : List Nd} {pos : Nat → Nat} {i : Nat} {M : List Nd} {S : List Int} {F : Nd → Option Nat} (hp : Pos N pos) (h : SI N pos i M S F) {q : Nat} (hq : q < N.length) (hi : pos q = i) (hn : N.length ≤ 100000) : (isIO (M.getD q nd0) ∨ Ok (fun y => ∃ m : Nat, y = (m : Int) ∧ m < M.length) (M.getD q nd0)) ∧ (¬ isIO (M.getD q nd0) → wfN (keyS (usesF (S.set q (q : Int)) (M.getD q nd0)))) := by
  rw [h.old q hq (by omega), h.rw.lm]
  by_cases hio : isIO (N.getD q nd0)
  · exact ⟨.inl hio, fun k => absurd hio k⟩
  · have hok0 := hp.at hq hio
    rw [hi] at hok0
    refine ⟨.inr (hok0.mono fun y hy => ?_), fun _ => ?_⟩
    · obtain ⟨m, e, hm, _⟩ := hy.nat
      exact ⟨m, e, hm⟩
    · rw [usesF_set hok0 (by omega)]
      refine ok_wf (pos := pos) (i := i) (keyS_ok (usesF_ok hok0 fun y hy => ?_)) hn
      obtain ⟨m, rfl, hm, hpm⟩ := (hok0.uses y hy).nat
      obtain ⟨g1, _⟩ := h.rw.st m hm (by omega)
      unfold sA
      rw [Int.toNat_natCast]
      exact g1.le (by omega)
section
variable {w : World} (o0 o1 o2 : Obj)
theorem al_2 : ((((w.alloc o0).alloc o1).alloc o2).drew).heap[w.heap.size + 1 + 1]? = some o2 := by
  have e : w.heap.size + 1 + 1 = ((w.alloc o0).alloc o1).heap.size := by simp
  rw [e]
  exact heap_alloc_new _ _
theorem al_1 : ((((w.alloc o0).alloc o1).alloc o2).drew).heap[w.heap.size + 1]? = some o1 := by
  have e : w.heap.size + 1 = (w.alloc o0).heap.size := by simp
  rw [e]
  exact (Below.heap_alloc ((w.alloc o0).alloc o1) o2 _ (by simp)).trans (heap_alloc_new _ _)
theorem al_0 : ((((w.alloc o0).alloc o1).alloc o2).drew).heap[w.heap.size]? = some o0 :=
  (Below.heap_alloc ((w.alloc o0).alloc o1) o2 _ (by simp; omega)).trans ((Below.heap_alloc (w.alloc o0) o1 _ (by simp)).trans (heap_alloc_new _ _))
theorem al_b : Below w.heap.size w ((((w.alloc o0).alloc o1).alloc o2).drew) := (((Below.alloc (Below.alloc (Below.alloc (Below.refl _ _) (by simp) _) (by simp) _) (by simp; omega) _)).drew)
end
/-- behind what the sharer is made of. -/
def ShM (w7 : World) (base : Nat) (vn : Value) (nn : Nat) (N : List Nd) (v : Value) (wx : World) : Prop := ∃ (p0 gs mb : Nat), v = .pointer (some ⟨p0, 0, none⟩) ∧ Hid (Fk wx base p0 vn (.slice (some ⟨gs, 0, none⟩) nn nn) mb 0 N (zI nn) (fun _ => none)) ∧ Hid (Below w7.heap.size w7 wx) ∧ w7.heap.size ≤ p0 ∧ w7.heap.size ≤ gs ∧ w7.heap.size ≤ mb
theorem sh_made {w7 W : World} {base nn p0 gs mb : Nat} {vn : Value} {N : List Nd} (hrn : w7.ownsRow base 43 4 vn N.length (N.flatMap ndC)) (hl : N.length = nn) (hn : nn ≤ 100000) (hbs : base ≤ w7.heap.size) (hb : Below w7.heap.size w7 W) (ho : W.heap[p0]? = some (.cells #[vn, .slice (some ⟨gs, 0, none⟩) nn nn, .map (some mb)] 85)) (hi : W.heap[gs]? = some (.cells ((zI nn).flatMap inC).toArray 3)) (hm : W.heap[mb]? = some (.map #[] 0)) (h1 : w7.heap.size ≤ p0) (h2 : w7.heap.size ≤ gs) (h3 : w7.heap.size ≤ mb) : ShM w7 base vn nn N (.pointer (some ⟨p0, 0, none⟩)) W := by
  subst hl
  refine ⟨p0, gs, mb, rfl, Lib.hid ⟨ho, row_on hrn hb, made_row hi (Nat.le_trans hbs h2) hn, by simp [zI], Nat.le_trans hbs h1, ⟨_, ⟨#[], 0, hm, ⟨by simp, Go.MapKept.stamped_empty 0, by simp⟩, Nat.le_refl _, rfl⟩, Dn.start⟩, Nat.le_trans hbs h3⟩, Lib.hid hb, h1, h2, h3⟩
theorem row_cong {w w' : World} {base k sz : Nat} {e : TypeId} {v : Value} {xs : List Value} (h : w.ownsRow base e sz v k xs) (hh : ∀ b, base ≤ b → b < w.heap.size → w'.heap[b]? = w.heap[b]?) : w'.ownsRow base e sz v k xs := by
  have hl := h.lt
  refine ⟨h.1, ?_⟩
  rcases h.2 with h1 | ⟨g, cap, cur, rfl, h2, h3, h4⟩
  · exact .inl h1
  · exact .inr ⟨g, cap, cur, rfl, h2, (hh g (hl g rfl).1 (hl g rfl).2).trans h3, h4⟩
theorem GD.cong {w w' : World} {base j : Nat} {R : List Rp} {L : List Pt} (h : GD w base j R L) (hh : ∀ b, base ≤ b → b < w.heap.size → w'.heap[b]? = w.heap[b]?) : GD w' base j R L := fun k r p hk hr hp => ⟨row_cong (h k r p hk hr hp).1 hh, (h k r p hk hr hp).2⟩
def runK (N : List Nd) (L : List Nat) : List Nd × List Int × (Nd → Option Nat) := L.foldl stepK (N, zI N.length, fun _ => none)
theorem runK_snoc (N : List Nd) {L : List Nat} {j q : Nat} (h : L[j]? = some q) : runK N (L.take (j + 1)) = stepK (runK N (L.take j)) q := by
  unfold runK
  rw [List.take_add_one, h, List.foldl_append]
  rfl
set_option maxHeartbeats 8000000 in
theorem share_yesH {An Ai Ao : Option Addr} {nn cn ni ci no co : Nat} {N : List Nd} {I O : List Pt} {w : World} (h : Nt w An nn cn Ai ni ci Ao no co N I O) (sn : Sw An nn cn) (hb : ∀ p ∈ I ++ O, p.bits.length ≤ 100000) {dd L : List Nat} (lx : LvN N I O dd L) : Calls Try.prog 23 #[.agg #[.slice An nn cn, .slice Ai ni ci, .slice Ao no co]] w fun en w' => (∃ Bn dn Bi di Bo do' M S F, en = .returned (.tuple #[.agg #[.slice Bn nn dn, .slice Bi ni di, .slice Bo no do'], .int .i64 (chS S nn : Nat), .int .i64 0]) ∧ runK N L = (M, S, F) ∧ SI N (fun q => L.idxOf q) L.length M S F ∧ NtH w.heap.size w' Bn nn dn Bi ni di Bo no do' (M.map (dffS S)) I (O.map (outF S)) ∧ Sw Bn nn dn) ∧ Below w.heap.size w w' := by
  have LX := Lib.hid lx
  have HB := Lib.hid hb
  have HLN := Lib.hid h.n.1
  have HPL := Lib.hid lx.pl
  clear hb lx
  go_enter Try.func23, Try.ntmps23
  go_upto_region 1 with fail
  obtain ⟨w1, e_w1⟩ : ∃ w', w.alloc (.cells #[.slice An nn cn, .slice Ai ni ci, .slice Ao no co] 25) = w' := ⟨_, rfl⟩
  have z0 : Bx w1 w.heap.size [.slice An nn cn, .slice Ai ni ci, .slice Ao no co] := e_w1 ▸ Bx.made_k w rfl #[.slice An nn cn, .slice Ai ni ci, .slice Ao no co] 25
  have b1 : Below w.heap.size w w1 := e_w1 ▸ below_lit _ _
  have hs1 : w1.heap.size = w.heap.size + 1 := e_w1 ▸ size_lit w _ rfl
  rw [e_w1]
  clear e_w1
  obtain ⟨s1, hs0⟩ : ∃ s1, w.heap.size + 1 = s1 := ⟨_, rfl⟩
  rw [hs0] at hs1 ⊢
  obtain ⟨w2, e_w2⟩ : ∃ w', w1.alloc (.cells #[.slice none 0 0, .slice none 0 0, .slice none 0 0] 25) = w' := ⟨_, rfl⟩
  have ZR : Own w2 s1 25 [.slice none 0 0, .slice none 0 0, .slice none 0 0] := by rw [← hs1]; exact e_w2 ▸ Own.made w1 25 [.slice none 0 0, .slice none 0 0, .slice none 0 0]
  have b2 : Below w1.heap.size w1 w2 := e_w2 ▸ below_lit _ _
  rw [e_w2]
  clear e_w2 hs1
  replace z0 := z0.on b2
  have BW := Below.step b1 b2
  replace h := h.on BW
  clear b1 b2
  have hws : w.heap.size < s1 := by omega
  have hs1w2 : s1 < w2.heap.size := ZR.lt
  clear hs0
  have c0 := z0.2 0 _ rfl; have c1 := z0.2 1 _ rfl; have c2 := z0.2 2 _ rfl
  go_upto_region 4 with (go_at_call 49; (with_reducible refine (order_as h LX.out.lev).mono ?_); (rintro en w3 ⟨Ao', mo, co', rfl, hI, hmc, b⟩; have hw23 := b.size; replace BW := Below.step BW b; replace ZR := ZR.below b ZR.lt; replace h := h.on b; replace z0 := z0.on b; clear b c0 c1 c2))
  have hmo : mo = L.length := by
    have := hI.1
    rw [LX.out.ord] at this
    unfold nI at this
    rw [← this, List.length_map]
  subst hmo
  rw [LX.out.ord] at hI
  have c0 := z0.2 0 _ rfl; have c1 := z0.2 1 _ rfl; have c2 := z0.2 2 _ rfl
  go_upto_region 5 with (go_at_call 40; (with_reducible refine (cloneD_as h sn HB.out).mono ?_); (rintro en wcl ⟨Bn, dn, Bi, di, Bo, do', s, s2, Ro, rfl, hrowN, hlt, swn, swi, swo, hs, hw3s, hs2, hpi, hrowO, hRl, hRn, hGD, b⟩; clear c0 c1 c2))
  have hww := BW.size
  have HBW3 := Lib.hid BW
  replace BW := Below.step BW b
  have hw : w3.heap.size ≤ s2 := Nat.le_trans hw3s hs
  obtain ⟨s7, hs7⟩ : ∃ s7, wcl.heap.size = s7 := ⟨_, rfl⟩
  obtain ⟨w7, e_w7⟩ : ∃ w', wcl.alloc (.cells #[.slice Bn nn dn, .slice Bi ni di, .slice Bo no do'] 25) = w' := ⟨_, rfl⟩
  have ZM : Own w7 wcl.heap.size 25 [.slice Bn nn dn, .slice Bi ni di, .slice Bo no do'] := e_w7 ▸ Own.made wcl 25 [.slice Bn nn dn, .slice Bi ni di, .slice Bo no do']
  have b7 : Below wcl.heap.size wcl w7 := e_w7 ▸ below_lit _ _
  rw [e_w7]
  have hrowN7 := row_on hrowN b7
  have B37 : Below w3.heap.size w3 w7 := Below.step b b7
  rw [hs7] at ZM ⊢
  clear e_w7
  have hmm := @run_makeMap Try.prog
  have z7 : Bx w7 s7 [.slice Bn nn dn, .slice Bi ni di, .slice Bo no do'] := ⟨ZM.lt, fun i u hu => (ZM.cell i).trans hu⟩
  have hnn := h.hn
  have hRN7 : w7.ownsRow w3.heap.size 43 4 (.slice Bn nn dn) N.length (N.flatMap ndC) := by rw [HLN.out]; exact hrowN7
  have hb37 : w3.heap.size ≤ w7.heap.size := B37.size
  have HRN7 := Lib.hid hRN7
  clear hRN7 hrowN7 hrowN
  go_cut [8] (fun v wx => ShM w7 w3.heap.size (.slice Bn nn dn) nn N v wx)
  case first =>
    have bd : Below w7.heap.size w7 w7.drew := (Below.refl _ _).drew
    replace z7 := z7.on bd
    go_region_held3 (fun w' => w'.cell? ⟨s7, 0, none⟩ = some (.slice Bn nn dn))
      ((first | with_reducible exact z7.n0 | exact (z7.on (below_lit _ _)).n0 | exact ((z7.on (below_lit _ _)).on (below_lit _ _)).n0 | exact (((z7.on (below_lit _ _)).on (below_lit _ _)).on (below_lit _ _)).n0 | exact (z7.on (Below.alloc (Below.alloc (Below.alloc (Below.refl _ _) (by simp) _) (by simp) _) (by simp) _)).n0 | exact (z7.on (Below.setCell (Below.setCell (Below.setCell (Below.alloc (Below.alloc (Below.alloc (Below.refl _ _) (by simp) _) (by simp) _) (by simp) _) (by simp) _) (by simp) _) (by simp) _)).n0))
      (fail)
    all_goals go_wp2_with fail
    all_goals go_meet
    all_goals first
      | exact sh_made HRN7.out HLN.out hnn hb37 (al_b _ _ _) (al_2 _ _ _) (al_0 _ _ _) (al_1 _ _ _) (by omega) (by omega) (by omega)
      | exact sh_made HRN7.out HLN.out hnn hb37 (al_b _ _ _) (al_2 _ _ _) (al_1 _ _ _) (al_0 _ _ _) (by omega) (by omega) (by omega)
      | exact sh_made HRN7.out HLN.out hnn hb37 (al_b _ _ _) (al_1 _ _ _) (al_0 _ _ _) (al_2 _ _ _) (by omega) (by omega) (by omega)
      | exact sh_made HRN7.out HLN.out hnn hb37 (al_b _ _ _) (al_1 _ _ _) (al_2 _ _ _) (al_0 _ _ _) (by omega) (by omega) (by omega)
      | exact sh_made HRN7.out HLN.out hnn hb37 (al_b _ _ _) (al_0 _ _ _) (al_1 _ _ _) (al_2 _ _ _) (by omega) (by omega) (by omega)
      | exact sh_made HRN7.out HLN.out hnn hb37 (al_b _ _ _) (al_0 _ _ _) (al_2 _ _ _) (al_1 _ _ _) (by omega) (by omega) (by omega)
  case rest =>
    obtain ⟨p0, gs, mb, rfl, HFK, HBX, hp7, hg7, hm7⟩ := hcut
    obtain ⟨wx, rfl⟩ : ∃ x, x = wc := ⟨_, rfl⟩
    have hm1 : L.length ≤ 100000 := by
      have := nodup_le N.length L LX.out.nd (fun x hx => (LX.out.mem x).1 hx)
      have := HLN.out
      omega
    have hbn : ∀ b, (Value.slice Bn nn dn).ownBlock = some b → w3.heap.size ≤ b ∧ b < s := fun b e => ⟨(HRN7.out.lt b e).1, hlt b e⟩
    have HBN := Lib.hid hbn
    have hs7w7 : s7 < w7.heap.size := ZM.lt
    have hX3 : Below w3.heap.size w3 wx := B37.trans (HBX.out.mono hb37)
    have hT3 : ∀ x, tS (.slice Bn nn dn) (.slice (some ⟨gs, 0, none⟩) nn nn) mb x → w3.heap.size ≤ x := fun x hx => by
      rcases hx with h | h | h
      · exact (hbn x h).1
      · have : gs = x := by injection h
        omega
      · omega
    have HT3 := Lib.hid hT3
    have HX3 := Lib.hid hX3
    clear hbn hT3 hX3 hmm z7
    apply_assumption
    go_step
    go_wp2_with fail
    go_loopw [36] (fun i wr => ∃ (j n : Nat) (M : List Nd) (S : List Int) (F : Nd → Option Nat), j ≤ L.length ∧ i = .int .i64 j ∧ Hid (runK N (L.take j) = (M, S, F)) ∧ Hid (SI N (fun q => L.idxOf q) j M S F) ∧ n ≤ j ∧ Hid (Fk wr w3.heap.size p0 (.slice Bn nn dn) (.slice (some ⟨gs, 0, none⟩) nn nn) mb n M S F) ∧ Hid (Kx (tS (.slice Bn nn dn) (.slice (some ⟨gs, 0, none⟩) nn nn) mb) wx wr)) (fun i _ => L.length - (intOf i).toNat)
    case atStart => exact ⟨0, 0, N, zI nn, _, Nat.zero_le _, rfl, Lib.hid (by rw [← HLN.out]; rfl), Lib.hid (by rw [← HLN.out]; exact SI.start), Nat.le_refl _, HFK, Lib.hid (Kx.refl _ _)⟩
    case round =>
      obtain ⟨j, n, M, S, F, hj, rfl, HRUN, HSI, hnj, HF, HK⟩ := hrel
      have hMl : M.length = nn := by rw [HSI.out.rw.lm, HLN.out]
      by_cases hlt2 : j < L.length
      · have hjn : (j : Int) < (L.length : Int) := by omega
        have hj0 : (0 : Int) ≤ (j : Int) := by omega
        obtain ⟨q, hq⟩ : ∃ q, L[j]? = some q := ⟨_, List.getElem?_eq_getElem hlt2⟩
        have hqN : q < N.length := (LX.out.mem q).1 (List.mem_of_getElem? hq)
        have hpos : L.idxOf q = j := idx_of_at LX.out.nd hq
        have B3r : Below w3.heap.size w3 wr := HX3.out.trans (HK.out.below (Nat.le_trans hb37 HBX.out.size) HT3.out)
        obtain ⟨bo, off, eA, iA⟩ := (hI.on B3r).iat hlt2
        have eq : (nI L).getD j 0 = (q : Int) := by
          unfold nI
          rw [List.getD_eq_getElem?_getD, List.getElem?_map, hq]
          rfl
        rw [eq] at iA
        obtain ⟨hx, hwf⟩ := HSI.out.look LX.out.pos hqN hpos (by rw [HLN.out]; exact hnn)
        have C : ∀ w', Fk w' w3.heap.size p0 (.slice Bn nn dn) (.slice (some ⟨gs, 0, none⟩) nn nn) mb n M S F → Calls Try.prog 50 #[.pointer (some ⟨p0, 0, none⟩), .int .i64 (q : Int)] w' fun e w'' => e = .returned (.tuple #[]) ∧ (∃ n', n' ≤ n + 1 ∧ Fk w'' w3.heap.size p0 (.slice Bn nn dn) (.slice (some ⟨gs, 0, none⟩) nn nn) mb n' (stepK (M, S, F) q).1 (stepK (M, S, F) q).2.1 (stepK (M, S, F) q).2.2) ∧ Kx (tS (.slice Bn nn dn) (.slice (some ⟨gs, 0, none⟩) nn nn) mb) w' w'' := fun w' hf => slook_as hf (by rw [hMl, ← HLN.out]; exact hqN) (by omega) (by omega) hx hwf
        have HS2 := Lib.hid (HSI.out.step LX.out.pos hqN hpos)
        have HR2 := Lib.hid (runK_snoc N hq)
        have hf := HF.out
        clear hx hwf eq hq
        subst eA
        have iA2 := iA.2
        go_wp2_with (go_at_call 50; (with_reducible refine (C _ hf).mono ?_); (rintro en wl ⟨rfl, ⟨n', hn', FD2⟩, kl⟩; clear iA2))
        have hrun2 : Hid (runK N (L.take (j + 1)) = ((stepK (M, S, F) q).1, (stepK (M, S, F) q).2.1, (stepK (M, S, F) q).2.2)) := Lib.hid (by rw [HR2.out, HRUN.out])
        have HK2 := Lib.hid (HK.out.trans kl)
        have HF2 := Lib.hid FD2
        go_roundw
        case rel => exact ⟨j + 1, n', _, _, _, by omega, by go_num, hrun2, HS2, by omega, HF2, HK2⟩
        case measure => simp [intOf]; omega
      · obtain rfl : j = L.length := by omega
        have hjn : ¬ (L.length : Int) < (L.length : Int) := by omega
        have hall := idx_lt LX.out.mem
        have HALL := Lib.hid hall
        have hd : ∀ q, q < M.length → (M.getD q nd0).k = 7 → ∃ m : Nat, (M.getD q nd0).a = (m : Int) ∧ m < M.length := fun q hq h7 => by
          rw [HSI.out.rw.lm] at hq ⊢
          have hio : isIO (N.getD q nd0) := by
            by_cases hio : isIO (N.getD q nd0)
            · exact hio
            · exact absurd (.inr h7) (HSI.out.rw.ok q hq (hall q hq) hio).io
          rw [(HSI.out.rw.io q hq (hall q hq) hio).1] at h7 ⊢
          exact dff_place (List.all_eq_true.1 LX.out.pos.fm _ (at_mem hq)) h7
        have C : ∀ w', Fk w' w3.heap.size p0 (.slice Bn nn dn) (.slice (some ⟨gs, 0, none⟩) nn nn) mb n M S F → Calls Try.prog 51 #[.pointer (some ⟨p0, 0, none⟩)] w' fun e w'' => e = .returned (.tuple #[]) ∧ Fk w'' w3.heap.size p0 (.slice Bn nn dn) (.slice (some ⟨gs, 0, none⟩) nn nn) mb n (M.map (dffS S)) S F ∧ Kx (tS (.slice Bn nn dn) (.slice (some ⟨gs, 0, none⟩) nn nn) mb) w' w'' := fun w' hf => ssettle_as hf hd (by omega)
        have hf := HF.out
        clear hd hall
        go_upto_region 12 with (go_at_call 51; (with_reducible refine (C _ hf).mono ?_); (rintro en ws ⟨rfl, FS, kl⟩))
        have HKS := Lib.hid (HK.out.trans kl)
        have hML : (M.map (dffS S)).length = nn := by rw [List.length_map]; exact hMl
        have HML := Lib.hid hML
        clear C hf HF HK kl hML
        have hsz7 : s7 < ws.heap.size := Nat.lt_of_lt_of_le hs7w7 (Nat.le_trans HBX.out.size HKS.out.size)
        have hs7w := hsz7
        -- what lies between s and s7 is as it was
        have hun : ∀ b, s ≤ b → b < s7 → ws.heap[b]? = wcl.heap[b]? := fun b h1 h2 => by
          have nt : ¬ tS (.slice Bn nn dn) (.slice (some ⟨gs, 0, none⟩) nn nn) mb b := fun ht => by
            rcases ht with h | h | h
            · have := (HBN.out b h).2; omega
            · have : gs = b := by injection h
              omega
            · omega
          rw [HKS.out.2 b (by have := HBX.out.size; omega) nt, HBX.out.block b (by omega), b7.block b (by omega)]
        have HUN := Lib.hid hun
        have ZMS : Own ws s7 25 [.slice Bn nn dn, .slice Bi ni di, .slice Bo no do'] := by
          have nt : ¬ tS (.slice Bn nn dn) (.slice (some ⟨gs, 0, none⟩) nn nn) mb s7 := fun ht => by
            rcases ht with h | h | h
            · have := (HBN.out s7 h).2; omega
            · have : gs = s7 := by injection h
              omega
            · omega
          exact ((HKS.out.2 s7 (by have := HBX.out.size; omega) nt).trans (HBX.out.block s7 hs7w7)).trans ZM
        have hrowO8 := Lib.hid (row_cong hrowO (w' := ws) (fun b h1 h2 => hun b (by omega) (by omega)))
        have hGD8 := Lib.hid (hGD.cong (w' := ws) (fun b h1 h2 => hun b (by omega) (by omega)))
        have HG7 : Hid (∀ (k : Nat) (r : Rp), Ro[k]? = some r → ∀ g, r.A = some ⟨g, 0, none⟩ → g < s7) := Lib.hid fun k r hr g e => by
          have hk : k < no := by rw [← hRl]; exact (List.getElem?_eq_some_iff.1 hr).1
          obtain ⟨p, hp⟩ := look_ex h.o.1 hk
          have := ((hGD k r p hk hr hp).1.lt g (by rw [e]; rfl)).2
          omega
        have HRN := Lib.hid hRn
        have HRL := Lib.hid hRl
        have HOL : Hid (O.length = no) := Lib.hid h.o.1
        have hno : no ≤ 1000 := by have := h.hs; omega
        obtain ⟨TP, hTP⟩ : ∃ TP : Nat → Prop, (fun b => s2 ≤ b ∧ b < s7) = TP := ⟨_, rfl⟩
        have htp : ∀ b, TP b → s2 ≤ b ∧ b < s7 := fun b hb => by rw [← hTP] at hb; exact hb
        have FKX : Hid (∀ w', Kx TP ws w' → Fk w' w3.heap.size p0 (.slice Bn nn dn) (.slice (some ⟨gs, 0, none⟩) nn nn) mb n (M.map (dffS S)) S F) := Lib.hid fun w' k => FS.kx k
          (fun t => by
            have h1 := htp _ t
            omega)
          (fun b e t => by
            have h1 := htp _ t
            have h2 := (HBN.out b e).2
            omega)
          (fun b e t => by
            have h1 := htp _ t
            have h2 : gs = b := by injection e
            omega)
          (fun t => by
            have h1 := htp _ t
            omega)
        have c2 : _ = some (Value.slice Bo no do') := ZMS.cell 2
        have HTP := Lib.hid htp
        have hgs7 : s7 < gs := by omega
        have hp07 : s7 < p0 := by omega
        clear hun hRn hRl htp hrowO hGD
        go_wp2_with fail
        clear c2
        go_loopw [47] (fun i wr => ∃ j : Nat, j ≤ no ∧ i = .int .i64 j ∧ Hid (wr.ownsRow s2 41 2 (.slice Bo no do') no (Ro.flatMap ptC)) ∧ Hid (GD wr s2 no Ro (mixF (outF S) j O)) ∧ Kx TP ws wr) (fun i _ => no - (intOf i).toNat)
        case atStart => exact ⟨0, Nat.zero_le _, rfl, hrowO8, by rw [mix_0]; exact hGD8, Kx.refl _ _⟩
        case round =>
          clear hrowO8 hGD8
          obtain ⟨j, hj, rfl, HRO, HGD, BR⟩ := hrel
          by_cases hlt : j < no
          · obtain ⟨⟨nm, bs⟩, hp⟩ := look_ex HOL.out hlt
            obtain ⟨⟨rn, rA, rm, rc⟩, hr⟩ := look_ex HRL.out hlt
            obtain rfl : rn = nm := HRN.out j _ _ hr hp
            have HP := Lib.hid hp
            have HR := Lib.hid hr
            have hmx : (mixF (outF S) j O)[j]? = some ⟨rn, bs⟩ := by rw [mix_at _ (by rw [HOL.out]; exact hlt)]; exact hp
            obtain ⟨g1, _⟩ := HGD.out j _ _ hlt hr hmx
            dsimp only at g1
            have hbl : bs.length = rm := by have := g1.1; rw [flat_len inC 1 inC_len] at this; omega
            have HBL := Lib.hid hbl
            have hrm : rm ≤ 100000 := by rw [← hbl]; exact HB.out _ (List.mem_append_right _ (List.mem_of_getElem? hp))
            have HG9 : Hid (∀ g, rA = some ⟨g, 0, none⟩ → g < s7) := Lib.hid fun g e => HG7.out j _ hr g e
            have hwr7 : s7 < wr.heap.size := Nat.lt_of_lt_of_le hs7w BR.size
            obtain ⟨A0, c0, q0, _, hl0, hc0⟩ := row_at HRO.out
            injection q0 with qa qb qc
            subst qa qc
            obtain ⟨gp, eA, hg, k1⟩ := hc0 (j * 2 + 0) (.string rn) (by rw [flat_at ptC 2 ptC_len Ro j 0 (by omega), hr]; rfl)
            obtain ⟨gp', eA', _, k2⟩ := hc0 (j * 2 + 1) (.slice rA rm rc) (by rw [flat_at ptC 2 ptC_len Ro j 1 (by omega), hr]; rfl)
            subst eA
            injection eA' with eA'
            injection eA' with eA'
            subst eA'
            rw [Nat.add_zero] at k1
            have hjn : (j : Int) < (no : Int) := by omega
            have hj0 : (0 : Int) ≤ (j : Int) := by omega
            clear hp hr hmx g1 hbl hc0 hl0
            go_upto_region 15 with fail
            obtain ⟨w9, e_w9⟩ : ∃ w', wr.alloc (.cells #[.string rn, .slice rA rm rc] 41) = w' := ⟨_, rfl⟩
            have z9 : Bx w9 wr.heap.size [.string rn, .slice rA rm rc] := e_w9 ▸ Bx.made_k wr rfl #[.string rn, .slice rA rm rc] 41
            have b9 : Below wr.heap.size wr w9 := e_w9 ▸ below_lit _ _
            rw [e_w9]
            have hRO9 := Lib.hid (row_on HRO.out b9)
            have hGD9 := Lib.hid (HGD.out.on b9)
            have BR9 := BR.step b9
            obtain ⟨s9, hs9⟩ : ∃ s9, wr.heap.size = s9 := ⟨_, rfl⟩
            rw [hs9] at z9 hwr7 ⊢
            clear e_w9 k1 k2 b9 hs9 HRO HGD
            have c1 : _ = some (Value.slice rA rm rc) := z9.2 1 _ rfl
            have hz9 := Lib.hid z9
            go_wp2_with fail
            clear c1
            go_loopw [54] (fun i wr => ∃ k : Nat, k ≤ rm ∧ i = .int .i64 k ∧ Hid (wr.ownsRow s2 41 2 (.slice (some ⟨gp, 0, none⟩) no do') no (Ro.flatMap ptC)) ∧ Hid (GD wr s2 no Ro ((mixF (outF S) j O).set j ⟨rn, mixF (sA S) k bs⟩)) ∧ Hid (Bx wr s9 [.string rn, .slice rA rm rc]) ∧ Kx TP ws wr) (fun i _ => rm - (intOf i).toNat)
            case atStart =>
              refine ⟨0, Nat.zero_le _, rfl, hRO9, ?_, hz9, BR9⟩
              rw [mix_0]
              have hmx : (mixF (outF S) j O)[j]? = some ⟨rn, bs⟩ := by rw [mix_at _ (by rw [HOL.out]; exact hlt)]; exact HP.out
              obtain ⟨h1, h2⟩ := List.getElem?_eq_some_iff.1 hmx
              rw [← h2, List.set_getElem_self]
              exact hGD9
            case round =>
              clear hRO9 hGD9 hz9 z9 BR BR9
              obtain ⟨k, hk, rfl, HRO, HGD, HZ9, BR⟩ := hrel
              by_cases hkt : k < rm
              · have hset : ((mixF (outF S) j O).set j ⟨rn, mixF (sA S) k bs⟩)[j]? = some ⟨rn, mixF (sA S) k bs⟩ := List.getElem?_set_self (by rw [mix_len, HOL.out]; exact hlt)
                obtain ⟨j1, _⟩ := HGD.out j _ _ hlt HR.out hset
                dsimp only at j1
                obtain ⟨g, rfl, hgs, _⟩ : ∃ g, rA = some ⟨g, 0, none⟩ ∧ s2 ≤ g ∧ g < wr.heap.size := by
                  rcases row_own j1 with ⟨_, e, _⟩ | h
                  · omega
                  · exact h
                have hg9 : g < s7 := HG9.out g rfl
                obtain ⟨x, hx⟩ : ∃ x, bs[k]? = some x := ⟨_, List.getElem?_eq_getElem (by rw [HBL.out]; exact hkt)⟩
                obtain ⟨m, rfl, hm⟩ : ∃ m : Nat, x = (m : Int) ∧ m < nn := by
                  have h1 := HPL.out _ (List.mem_of_getElem? HP.out) x (List.mem_of_getElem? hx)
                  rw [HLN.out] at h1
                  unfold placeS at h1
                  simp at h1
                  exact ⟨x.toNat, by omega, by omega⟩
                have a0 : wr.cell? ⟨g, k, none⟩ = some (Value.int .i64 (m : Int)) := (j1.cellAt k (by omega)).trans (by
                  have e := flat_at inC 1 inC_len (mixF (sA S) k bs) k 0 (by omega)
                  rw [Nat.mul_one, Nat.add_zero] at e
                  rw [e, mix_at _ (by rw [HBL.out]; exact hkt), hx]
                  rfl)
                have FDr := FKX.out _ BR
                have N2 := (row_is FDr.rs)
                rw [HML.out] at N2
                obtain ⟨A2, cc2, e2, _, _, N2⟩ := N2
                injection e2 with e2 _ e2'
                subst e2 e2'
                obtain ⟨b1, off1, eB, iB⟩ := N2.iat hm
                injection eB with eB
                injection eB with eB1 eB2
                subst eB1 eB2
                rw [Nat.zero_add] at iB
                obtain ⟨sv, hsv⟩ : ∃ sv, S.getD m 0 = sv := ⟨_, rfl⟩
                rw [hsv] at iB
                have HSV : Hid (sA S (m : Int) = sv) := Lib.hid (by unfold sA; rw [Int.toNat_natCast]; exact hsv)
                have HX := Lib.hid hx
                have hkn : (k : Int) < (rm : Int) := by omega
                have hk0 : (0 : Int) ≤ (k : Int) := by omega
                have hm1 : (m : Int) < (nn : Int) := by omega
                have hm0 : (0 : Int) ≤ (m : Int) := by omega
                clear hsv hx N2
                go_upto_region 18 with fail
                have hp9 : p0 ≠ g := by omega
                have h9g : s9 ≠ g := by omega
                have h1g : gs ≠ g := by omega
                refine LexG.region_plan (KB3.ok p0 s9 gs) 0 [0, 1, 2, 3, 4, 5, 6, 7, 8, 9] (by kernel_rfl) (by kernel_rfl) (by kernel_rfl) (by kernel_rfl) (by kernel_rfl) ?_
                dsimp only [LexG.pick, LexG.nth]
                have bd : Below wr.heap.size wr wr.drew := (Below.refl _ _).drew
                replace FDr := FDr.on bd
                replace iB := iB.on bd
                replace HRO := Lib.hid (row_on HRO.out bd)
                replace HGD := Lib.hid (HGD.out.on bd)
                replace HZ9 := Lib.hid (HZ9.out.on bd)
                replace j1 := row_on j1 bd
                replace BR := BR.step bd
                obtain ⟨w4, e4⟩ : ∃ w', wr.drew = w' := ⟨_, rfl⟩
                rw [e4] at FDr iB HRO HGD HZ9 j1 BR ⊢
                clear e4 bd a0
                have lf0 := fun s : LexG.Wd (KB3 p0 s9 gs) w4 => (show s.w.cell? ⟨p0, 1, none⟩ = some (Value.slice (some ⟨gs, 0, none⟩) nn nn) from (cell_of_heap s.rel.1 1).trans (FDr.ow.cell 1))
                have lf1 := fun s : LexG.Wd (KB3 p0 s9 gs) w4 => (show s.w.cell? ⟨s9, 1, none⟩ = some (Value.slice (some ⟨g, 0, none⟩) rm rc) from (cell_of_heap s.rel.2.1 1).trans (HZ9.out.2 1 _ rfl))
                have lf2 := fun s : LexG.Wd (KB3 p0 s9 gs) w4 => (show s.w.cell? ⟨gs, m, none⟩ = some (Value.int .i64 sv) from (cell_of_heap s.rel.2.2 m).trans iB.2)
                refine LexG.lex_plain 9 (by kernel_rfl) ?_
                dsimp only [List.take, List.drop]
                repeat go_big_quiet_step (fail)
                refine wpQuiet_nil ?_
                clear lf0 lf1 lf2
                have a1 : w4.cell? ⟨g, k, none⟩ = some (Value.int .i64 (m : Int)) := (j1.cellAt k (by omega)).trans (by
                  have e := flat_at inC 1 inC_len (mixF (sA S) k bs) k 0 (by omega)
                  rw [Nat.mul_one, Nat.add_zero] at e
                  rw [e, mix_at _ (by rw [HBL.out]; exact hkt), HX.out]
                  rfl)
                have f1 := j1.frozenAt k
                refine LexG.lex_call (by kernel_rfl) (by kernel_rfl) (fun K hK => ?_)
                go_simp
                clear a1 f1
                refine hK _ _ (KB3.set w4 hp9 h9g h1g k (.int .i64 sv)) ?_
                clear hK K
                obtain ⟨cu, hcu, _⟩ := row_type j1
                have HRO' := Lib.hid (row_other HRO.out hcu (by decide) k (.int .i64 sv))
                have hset : ((mixF (outF S) j O).set j ⟨rn, mixF (sA S) k bs⟩)[j]? = some ⟨rn, mixF (sA S) k bs⟩ := List.getElem?_set_self (by rw [mix_len, HOL.out]; exact hlt)
                have hGN := HGD.out.put (i := k) hlt HR.out hset rfl sv
                rw [List.set_set] at hGN
                dsimp only at hGN
                rw [← HSV.out, ← mix_next (sA S) HX.out, HSV.out] at hGN
                have HGD' := Lib.hid hGN
                have HZ9' := Lib.hid (HZ9.out.apart h9g k (.int .i64 sv))
                have BR' := BR.set (g := g) (by rw [← hTP]; exact ⟨hgs, hg9⟩) k (.int .i64 sv)
                clear hGN hset
                refine LexG.lex_nil ?_
                dsimp only [NoPanic]
                go_wp2_with fail
                go_roundw
                case rel => exact ⟨k + 1, by omega, by go_num, HRO', HGD', HZ9', BR'⟩
                case measure => simp [intOf]; omega
              · obtain rfl : k = rm := by omega
                have hkn : ¬ (k : Int) < (k : Int) := by omega
                have HGD' : Hid (GD wr s2 no Ro (mixF (outF S) (j + 1) O)) := Lib.hid (by
                  have e := mix_all (sA S) bs
                  rw [HBL.out] at e
                  rw [mix_next (outF S) HP.out]
                  have := HGD.out
                  rw [e] at this
                  exact this)
                go_wp2_with fail
                go_roundw
                case rel => exact ⟨j + 1, by omega, by go_num, HRO, HGD', BR⟩
                case measure => simp [intOf]; omega
          · obtain rfl : j = no := by omega
            have hjn : ¬ (j : Int) < (j : Int) := by omega
            have hb : GD wr s2 j Ro (O.map (outF S)) := by
              have := HGD.out
              rw [← mix_all (outF S) O, HOL.out]
              exact this
            have FDr := FKX.out _ BR
            have HGDe := Lib.hid hb
            clear hb HGD
            go_upto_region 21 with fail
            have hs1w3 : s1 < w3.heap.size := by omega
            have hszw7 := HBX.out.size
            have hws3 : w3.heap.size ≤ ws.heap.size := Nat.le_trans hb37 (Nat.le_trans hszw7 HKS.out.size)
            have B3r : Below w3.heap.size w3 wr := (HX3.out.trans (HKS.out.below (Nat.le_trans hb37 hszw7) HT3.out)).trans (BR.below hws3 (fun x hx => by
              have := HTP.out x hx
              omega))
            have ZRr := ZR.below B3r ZR.lt
            have BWr := HBW3.out.trans (B3r.mono (by omega))
            have hwsr := BR.size
            have PIr := hpi wr (fun b h1 h2 => (BR.2 b (by omega) (fun t => by have := HTP.out b t; omega)).trans (HUN.out b h1 (by omega))) (by omega)
            have hz7 : wr.heap[s7]? = ws.heap[s7]? := BR.2 s7 hsz7 (fun t => by have := HTP.out s7 t; omega)
            have HZM := Lib.hid (show Own wr s7 25 [.slice Bn nn dn, .slice Bi ni di, .slice Bo j do'] from hz7.trans ZMS)
            have hrn := FDr.rn
            have C9 : ∀ w', Fk w' w3.heap.size p0 (.slice Bn nn dn) (.slice (some ⟨gs, 0, none⟩) nn nn) mb n (M.map (dffS S)) S F → Calls Try.prog 52 #[.pointer (some ⟨p0, 0, none⟩)] w' fun e w'' => e = .returned (.int .i64 (chS S nn : Nat)) ∧ Below w'.heap.size w' w'' := fun w' f => by
              have := replaced_as f (by rw [HML.out]; omega)
              rw [HML.out] at this
              exact this
            have hne7 : s7 ≠ s1 := by omega
            have hs1s : s1 < s := by omega
            have hs12 : s1 < s2 := by omega
            have hswr : s7 < wr.heap.size := by omega
            clear BR FKX HUN hpi ZMS hz7 ZR BW
            refine LexG.region_plan (KB3.ok s7 s7 s7) 0 [0, 1, 2, 3, 4] (by kernel_rfl) (by kernel_rfl) (by kernel_rfl) (by kernel_rfl) (by kernel_rfl) ?_
            dsimp only [LexG.pick, LexG.nth]
            have bd : Below wr.heap.size wr wr.drew := (Below.refl _ _).drew
            replace FDr := FDr.on bd
            replace ZRr := ZRr.below bd ZRr.lt
            replace HZM := Lib.hid (HZM.out.below bd HZM.out.lt)
            replace PIr := PIr.on bd
            replace HRO := Lib.hid (row_on HRO.out bd)
            replace HGDe := Lib.hid (HGDe.out.on bd)
            replace hrn := row_on hrn bd
            replace BWr := Below.step BWr bd
            obtain ⟨w4, e4⟩ : ∃ w', wr.drew = w' := ⟨_, rfl⟩
            rw [e4] at FDr ZRr HZM PIr HRO HGDe hrn BWr ⊢
            clear e4 bd
            have lf0 := fun s : LexG.Wd (KB3 s7 s7 s7) w4 => (show s.w.cell? ⟨s7, 0, none⟩ = some (Value.slice Bn nn dn) from (cell_of_heap s.rel.1 0).trans (HZM.out.cell 0))
            have lf1 := fun s : LexG.Wd (KB3 s7 s7 s7) w4 => (show s.w.cell? ⟨s7, 1, none⟩ = some (Value.slice Bi ni di) from (cell_of_heap s.rel.1 1).trans (HZM.out.cell 1))
            have lf2 := fun s : LexG.Wd (KB3 s7 s7 s7) w4 => (show s.w.cell? ⟨s7, 2, none⟩ = some (Value.slice Bo j do') from (cell_of_heap s.rel.1 2).trans (HZM.out.cell 2))
            refine LexG.lex_plain 1 (by kernel_rfl) ?_
            dsimp only [List.take, List.drop]
            repeat go_big_quiet_step (fail)
            refine wpQuiet_nil ?_
            clear lf0 lf1 lf2
            refine LexG.lex_call (by kernel_rfl) (by kernel_rfl) (fun K hK => ?_)
            go_simp
            refine (C9 _ FDr).mono ?_
            rintro en w5 ⟨rfl, b⟩
            dsimp only
            refine hK _ _ ⟨b.block _ HZM.out.lt, b.block _ HZM.out.lt, b.block _ HZM.out.lt⟩ ?_
            clear hK K
            replace ZRr := ZRr.below b ZRr.lt
            replace PIr := PIr.on b
            replace HRO := Lib.hid (row_on HRO.out b)
            replace HGDe := Lib.hid (HGDe.out.on b)
            replace hrn := row_on hrn b
            replace BWr := Below.step BWr b
            clear b FDr HZM
            have c0 := ZRr.cell 0; have c1 := ZRr.cell 1; have c2 := ZRr.cell 2
            have f0 := ZRr.free 0; have f1 := ZRr.free 1; have f2 := ZRr.free 2
            refine LexG.lex_call (by kernel_rfl) (by kernel_rfl) (fun K hK => ?_)
            go_simp
            clear c0 c1 c2 f0 f1 f2
            have kb := (KB3.ok s7 s7 s7).trans _ _ _ ((KB3.ok s7 s7 s7).trans _ _ _ (KB3.set w5 hne7 hne7 hne7 0 (.slice Bn nn dn)) (KB3.set _ hne7 hne7 hne7 1 (.slice Bi ni di))) (KB3.set _ hne7 hne7 hne7 2 (.slice Bo j do'))
            refine hK _ _ kb ?_
            clear hK K kb
            have VR := ((ZRr.put 0 (.slice Bn nn dn)).put 1 (.slice Bi ni di)).put 2 (.slice Bo j do')
            have q0 : _ = some (Value.slice Bn nn dn) := VR.cell 0; have q1 : _ = some (Value.slice Bi ni di) := VR.cell 1; have q2 : _ = some (Value.slice Bo j do') := VR.cell 2
            have hrn6 := row_keepS (row_keepS (row_keepS hrn hs1w3 0 (.slice Bn nn dn)) hs1w3 1 (.slice Bi ni di)) hs1w3 2 (.slice Bo j do')
            have hro6 := row_keepS (row_keepS (row_keepS HRO.out hs12 0 (.slice Bn nn dn)) hs12 1 (.slice Bi ni di)) hs12 2 (.slice Bo j do')
            have hgd6 := ((HGDe.out.keepS hs12 0 (.slice Bn nn dn)).keepS hs12 1 (.slice Bi ni di)).keepS hs12 2 (.slice Bo j do')
            have hpi6 := ((PIr.far (grown_set w5 ⟨s1, 0, none⟩ (.slice Bn nn dn)) hs1s).far (grown_set _ ⟨s1, 1, none⟩ (.slice Bi ni di)) hs1s).far (grown_set _ ⟨s1, 2, none⟩ (.slice Bo j do')) hs1s
            have hle : w.heap.size ≤ s1 := by omega
            have BW6 := ((BWr.setCell (p := ⟨s1, 0, none⟩) hle (.slice Bn nn dn)).setCell (p := ⟨s1, 1, none⟩) hle (.slice Bi ni di)).setCell (p := ⟨s1, 2, none⟩) hle (.slice Bo j do')
            have hpo := hgd6.psH hro6 HRL.out (by rw [List.length_map]; exact HOL.out) (fun k r q hr hq => by
              rw [List.getElem?_map] at hq
              cases hq0 : O[k]? with
              | none => rw [hq0] at hq; cases hq
              | some q0 =>
                rw [hq0] at hq
                injection hq with hq
                rw [← hq]
                exact HRN.out k r q0 hr hq0)
            have hpn := row_ns hrn6
            rw [HML.out] at hpn
            obtain ⟨A2, cc2, e2, _, hA2, N2⟩ := hpn
            injection e2 with e2 _ e2'
            subst e2 e2'
            have hle2 : w.heap.size ≤ w3.heap.size := by omega
            have hle3 : w.heap.size ≤ s := by omega
            have hle4 : w.heap.size ≤ s2 := by omega
            have HNT : Hid (NtH w.heap.size (((w5.setCell ⟨s1, 0, none⟩ (.slice Bn nn dn)).setCell ⟨s1, 1, none⟩ (.slice Bi ni di)).setCell ⟨s1, 2, none⟩ (.slice Bo j do')) Bn nn dn Bi ni di Bo j do' (M.map (dffS S)) I (O.map (outF S))) := Lib.hid ⟨⟨N2, hpi6.ps, hpo.ps, swi, swo, hnn, h.hs, fun q hq => by
              rcases List.mem_append.1 hq with hq | hq
              · exact h.hb q (List.mem_append_left _ hq)
              · obtain ⟨q0, hq0, rfl⟩ := List.mem_map.1 hq
                unfold outF
                rw [List.length_map]
                exact h.hb q0 (List.mem_append_right _ hq0)⟩, fun b off e => Nat.le_trans hle2 (hA2 b off e).1, hpi6.mono hle3, hpo.mono hle4⟩
            have HBW := Lib.hid BW6
            have HRUN2 : Hid (runK N L = (M, S, F)) := Lib.hid (by have := HRUN.out; rw [List.take_length] at this; exact this)
            clear hA2 hle2 hle3 hle4 BW6 hpo hpi6 hgd6 hro6 hrn6 N2 PIr BWr VR
            refine LexG.lex_plain 2 (by kernel_rfl) ?_
            dsimp only [List.take, List.drop]
            repeat go_big_quiet_step (fail)
            refine wpQuiet_nil ?_
            refine LexG.lex_nil ?_
            dsimp only [NoPanic]
            go_wp2_with fail
            refine bodyPost_ret (v := .tuple #[.agg #[.slice Bn nn dn, .slice Bi ni di, .slice Bo j do'], .int .i64 (chS S nn : Nat), .int .i64 0]) (by simp [results, Try.results23, go_sem, q0, q1, q2]) rfl ?_
            exact ⟨⟨Bn, dn, Bi, di, Bo, do', M, S, rfl, F, HRUN2.out, HSI.out, HNT.out, swn⟩, HBW.out⟩
end Go.Proofs.Ytcehklnonhalhaa
