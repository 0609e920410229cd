/-
  What the proofs of OptTells need: Yg.
-/
import Derived.Test.YtcehklnonhalhaaSTYf
import Derived.Laws.StructEq
set_option linter.unusedVariables false
namespace Go.Proofs.Ytcehklnonhalhaa
open Go.RowKit
set_option maxRecDepth 4000
attribute [local go_sem ↓] zbT zbS
theorem mk2o (w : World) (L M : List Value) (T : TypeId) : ∃ w1,(w.alloc (.cells L.toArray T)).alloc (.cells M.toArray T) = w1 ∧ Bx w1 w.heap.size L ∧ Own w1 (w.heap.size + 1) T M ∧ Below w.heap.size w w1:=by
 refine ⟨_,rfl,(Bx.made_k w rfl L.toArray T).on (zaa _ _),?_,zbu w _ _⟩
 have h:=Own.made (w.alloc (.cells L.toArray T)) T M
 rw [zal w _ rfl] at h
 exact h
theorem Bx.y4 {w : World} {s : Nat} {a b c d : Value} (h : Bx w s [a,b,c,d]) : w.cell? ⟨s,0,none⟩ = some a ∧ w.cell? ⟨s,1,none⟩ = some b ∧ w.cell? ⟨s,2,none⟩ = some c ∧ w.cell? ⟨s,3,none⟩ = some d:=⟨h.2 0 _ rfl,h.2 1 _ rfl,h.2 2 _ rfl,h.2 3 _ rfl⟩
theorem Own.y8 {w : World} {s : Nat} {t : TypeId} {a b c d : Value} (h : Own w s t [a,b,c,d]) : w.cell? ⟨s,0,none⟩ = some a ∧ w.frozen? ⟨s,0,none⟩ = false ∧ w.cell? ⟨s,1,none⟩ = some b ∧ w.frozen? ⟨s,1,none⟩ = false ∧ w.cell? ⟨s,2,none⟩ = some c ∧ w.frozen? ⟨s,2,none⟩ = false ∧ w.cell? ⟨s,3,none⟩ = some d ∧ w.frozen? ⟨s,3,none⟩ = false:=⟨h.cell 0,h.free 0,h.cell 1,h.free 1,h.cell 2,h.free 2,h.cell 3,h.free 3⟩
theorem Own.q4 {w : World} {s : Nat} {t : TypeId} {x y z u : Value} (h : Own w s t [x,y,z,u]) (a b c d : Value) : ((((w.setCell ⟨s,0,none⟩ a).setCell ⟨s,1,none⟩ b).setCell ⟨s,2,none⟩ c).setCell ⟨s,3,none⟩ d).cell? ⟨s,0,none⟩ = some a ∧ ((((w.setCell ⟨s,0,none⟩ a).setCell ⟨s,1,none⟩ b).setCell ⟨s,2,none⟩ c).setCell ⟨s,3,none⟩ d).cell? ⟨s,1,none⟩ = some b ∧ ((((w.setCell ⟨s,0,none⟩ a).setCell ⟨s,1,none⟩ b).setCell ⟨s,2,none⟩ c).setCell ⟨s,3,none⟩ d).cell? ⟨s,2,none⟩ = some c ∧ ((((w.setCell ⟨s,0,none⟩ a).setCell ⟨s,1,none⟩ b).setCell ⟨s,2,none⟩ c).setCell ⟨s,3,none⟩ d).cell? ⟨s,3,none⟩ = some d:=by
 have V:=h.p4' a b c d
 exact ⟨V.cell 0,V.cell 1,V.cell 2,V.cell 3⟩
theorem zbf {B : Nat} {w0 w : World} {s : Nat} {a b c d : Value} (h : Below B w0 w) (hs : B ≤ s) : Below B w0 ((((w.setCell ⟨s,0,none⟩ a).setCell ⟨s,1,none⟩ b).setCell ⟨s,2,none⟩ c).setCell ⟨s,3,none⟩ d):=h.s4' hs
theorem isC_one {M : List Nd} {a : Int} (h : isC M a 0 = true) : isC M a 1 = false:=by
 unfold isC at *
 have:=(zaE _ _).1 h
 rw [this]
 decide
set_option maxHeartbeats 16000000 in
theorem zfd {w : World} {p : Nat} {M : List Nd} {S : List Int} (h : Fr w p M S) (k c q : Int) (a b : Nat) (ha : a < M.length) (hb : b < M.length) : Calls Try.prog 114 #[.pointer (some ⟨p,0,none⟩),.agg #[.int .i64 k,.int .i64 (a : Int),.int .i64 (b : Int),.int .i64 c],.int .i64 q,.int .i64 0] w fun e w' => e = .returned (.tuple #[ndA (aoL M ⟨k,(a : Int),(b : Int),c⟩ q 0).1,.int .i64 (aoL M ⟨k,(a : Int),(b : Int),c⟩ q 0).2]) ∧ Below w.heap.size w w':=by
  have hcs : (isC M (a : Int) 0 = true ∧ aoL M ⟨k,(a : Int),(b : Int),c⟩ q 0 = (⟨0,0,0,0⟩,q)) ∨ (isC M (a : Int) 0 = false ∧ isC M (b : Int) 0 = true ∧ aoL M ⟨k,(a : Int),(b : Int),c⟩ q 0 = (⟨0,0,0,0⟩,q)) ∨ (isC M (a : Int) 0 = false ∧ isC M (b : Int) 0 = false ∧ isC M (a : Int) 1 = true ∧ aoL M ⟨k,(a : Int),(b : Int),c⟩ q 0 = (⟨k,(a : Int),(b : Int),c⟩,(b : Int))) ∨ (isC M (a : Int) 0 = false ∧ isC M (b : Int) 0 = false ∧ isC M (a : Int) 1 = false ∧ isC M (b : Int) 1 = true ∧ aoL M ⟨k,(a : Int),(b : Int),c⟩ q 0 = (⟨k,(a : Int),(b : Int),c⟩,(a : Int))) ∨ (isC M (a : Int) 0 = false ∧ isC M (b : Int) 0 = false ∧ isC M (a : Int) 1 = false ∧ isC M (b : Int) 1 = false ∧ ((a : Int) == (b : Int)) = true ∧ aoL M ⟨k,(a : Int),(b : Int),c⟩ q 0 = (⟨k,(a : Int),(b : Int),c⟩,(a : Int))) ∨ (isC M (a : Int) 0 = false ∧ isC M (b : Int) 0 = false ∧ isC M (a : Int) 1 = false ∧ isC M (b : Int) 1 = false ∧ ((a : Int) == (b : Int)) = false ∧ areT M (a : Int) (b : Int) = true ∧ aoL M ⟨k,(a : Int),(b : Int),c⟩ q 0 = (⟨0,0,0,0⟩,q)) ∨ (isC M (a : Int) 0 = false ∧ isC M (b : Int) 0 = false ∧ isC M (a : Int) 1 = false ∧ isC M (b : Int) 1 = false ∧ ((a : Int) == (b : Int)) = false ∧ areT M (a : Int) (b : Int) = false ∧ aoL M ⟨k,(a : Int),(b : Int),c⟩ q 0 = (⟨k,(a : Int),(b : Int),c⟩,q)):=by
    cases c0 : isC M (a : Int) 0
    · cases c1 : isC M (b : Int) 0
      · cases c2 : isC M (a : Int) 1
        · cases c3 : isC M (b : Int) 1
          · cases c4 : ((a : Int) == (b : Int))
            · cases c5 : areT M (a : Int) (b : Int)
              · exact .inr (.inr (.inr (.inr (.inr (.inr (⟨rfl,rfl,rfl,rfl,rfl,rfl,by unfold aoL; simp [*] <;> rfl⟩))))))
              exact .inr (.inr (.inr (.inr (.inr (.inl ⟨rfl,rfl,rfl,rfl,rfl,rfl,by unfold aoL; simp [*] <;> rfl⟩)))))
            exact .inr (.inr (.inr (.inr (.inl ⟨rfl,rfl,rfl,rfl,rfl,by unfold aoL; simp [*] <;> rfl⟩))))
          exact .inr (.inr (.inr (.inl ⟨rfl,rfl,rfl,rfl,by unfold aoL; simp [*] <;> rfl⟩)))
        exact .inr (.inr (.inl ⟨rfl,rfl,rfl,by unfold aoL; simp [*] <;> rfl⟩))
      exact .inr (.inl ⟨rfl,rfl,by unfold aoL; simp [*] <;> rfl⟩)
    exact .inl ⟨rfl,by unfold aoL; simp [*] <;> rfl⟩
  rcases hcs with ⟨c0,e⟩ | ⟨c0,c1,e⟩ | ⟨c0,c1,c2,e⟩ | ⟨c0,c1,c2,c3,e⟩ | ⟨c0,c1,c2,c3,c4,e⟩ | ⟨c0,c1,c2,c3,c4,c5,e⟩ | ⟨c0,c1,c2,c3,c4,c5,e⟩
  all_goals rw [e]
  all_goals
    go_enter Try.func114,Try.ntmps114
    go_upto_region 1 with fail
    obtain ⟨w1,e1,z0,ZR,BW⟩:=mk2o w [.int .i64 k,.int .i64 (a : Int),.int .i64 (b : Int),.int .i64 c] [.int .i64 0,.int .i64 0,.int .i64 0,.int .i64 0] 43
    replace h:=h.on BW
    obtain ⟨s1,hs1,hle,hne⟩ : ∃ s1,w.heap.size + 1 = s1 ∧ w.heap.size ≤ s1 ∧ w.heap.size ≠ s1:=⟨_,rfl,by omega,by omega⟩
    rw [e1]
    clear e1
    rw [hs1] at ZR ⊢
    obtain ⟨z0c0,z0c1,z0c2,z0c3⟩:=z0.y4; obtain ⟨zr0,zf0,zr1,zf1,zr2,zf2,zr3,zf3⟩:=ZR.y8
    go_wp2_with ((first | (go_at_call 126; first | with_reducible refine (zaz h a ha 0 _ c0).mono ?_ | with_reducible refine (zaz h b hb 0 _ c1).mono ?_ | with_reducible refine (zaz h a ha 1 _ c2).mono ?_ | with_reducible refine (zaz h b hb 1 _ c3).mono ?_) | (go_at_call 127; first | with_reducible refine (zcF h a b ha hb _ c5).mono ?_) | (go_at_call 125; first | with_reducible refine (zby 0 _).mono ?_)); (rintro en w2 ⟨rfl,b⟩; clear z0c0 z0c1 z0c2 z0c3 zr0 zr1 zr2 zr3 zf0 zf1 zf2 zf3; replace h:=h.on b; replace z0:=z0.on b; replace ZR:=ZR.below b ZR.lt; replace BW:=Below.step BW b; clear b; obtain ⟨z0c0,z0c1,z0c2,z0c3⟩:=z0.y4; obtain ⟨zr0,zf0,zr1,zf1,zr2,zf2,zr3,zf3⟩:=ZR.y8))
    first
      | (refine bodyPost_ret (v:=.tuple #[ndA _,.int .i64 _]) ?_ rfl ⟨rfl,zbf BW hle⟩
         have HV:=fun a b c d => ZR.q4 a b c d
         simp [results,Try.results114,go_sem,HV,ndA])
      | (have bd : Below w2.heap.size w2 w2.drew:=(Below.refl _ _).drew
         obtain ⟨y0c0,y0c1,y0c2,y0c3⟩:=(z0.on bd).y4
         have YR:=ZR.below bd ZR.lt
         obtain ⟨yr0,yf0,yr1,yf1,yr2,yf2,yr3,yf3⟩:=YR.y8
         clear bd h
         go_region
         go_wp2_with fail
         refine bodyPost_ret (v:=.tuple #[ndA _,.int .i64 _]) ?_ rfl ⟨rfl,(zbf BW hle).drew⟩
         have HV:=fun a b c d => ZR.q4 a b c d
         simp [results,Try.results114,go_sem,HV,ndA])
set_option maxHeartbeats 16000000 in
theorem zfc {w : World} {p : Nat} {M : List Nd} {S : List Int} (h : Fr w p M S) (k c q : Int) (a b : Nat) (ha : a < M.length) (hb : b < M.length) : Calls Try.prog 114 #[.pointer (some ⟨p,0,none⟩),.agg #[.int .i64 k,.int .i64 (a : Int),.int .i64 (b : Int),.int .i64 c],.int .i64 q,.int .i64 1] w fun e w' => e = .returned (.tuple #[ndA (aoL M ⟨k,(a : Int),(b : Int),c⟩ q 1).1,.int .i64 (aoL M ⟨k,(a : Int),(b : Int),c⟩ q 1).2]) ∧ Below w.heap.size w w':=by
  have hcs : (isC M (a : Int) 1 = true ∧ aoL M ⟨k,(a : Int),(b : Int),c⟩ q 1 = (⟨0,1,0,0⟩,q)) ∨ (isC M (a : Int) 1 = false ∧ isC M (b : Int) 1 = true ∧ aoL M ⟨k,(a : Int),(b : Int),c⟩ q 1 = (⟨0,1,0,0⟩,q)) ∨ (isC M (a : Int) 1 = false ∧ isC M (b : Int) 1 = false ∧ isC M (a : Int) 0 = true ∧ aoL M ⟨k,(a : Int),(b : Int),c⟩ q 1 = (⟨k,(a : Int),(b : Int),c⟩,(b : Int))) ∨ (isC M (a : Int) 1 = false ∧ isC M (b : Int) 1 = false ∧ isC M (a : Int) 0 = false ∧ isC M (b : Int) 0 = true ∧ aoL M ⟨k,(a : Int),(b : Int),c⟩ q 1 = (⟨k,(a : Int),(b : Int),c⟩,(a : Int))) ∨ (isC M (a : Int) 1 = false ∧ isC M (b : Int) 1 = false ∧ isC M (a : Int) 0 = false ∧ isC M (b : Int) 0 = false ∧ ((a : Int) == (b : Int)) = true ∧ aoL M ⟨k,(a : Int),(b : Int),c⟩ q 1 = (⟨k,(a : Int),(b : Int),c⟩,(a : Int))) ∨ (isC M (a : Int) 1 = false ∧ isC M (b : Int) 1 = false ∧ isC M (a : Int) 0 = false ∧ isC M (b : Int) 0 = false ∧ ((a : Int) == (b : Int)) = false ∧ areT M (a : Int) (b : Int) = true ∧ aoL M ⟨k,(a : Int),(b : Int),c⟩ q 1 = (⟨0,1,0,0⟩,q)) ∨ (isC M (a : Int) 1 = false ∧ isC M (b : Int) 1 = false ∧ isC M (a : Int) 0 = false ∧ isC M (b : Int) 0 = false ∧ ((a : Int) == (b : Int)) = false ∧ areT M (a : Int) (b : Int) = false ∧ aoL M ⟨k,(a : Int),(b : Int),c⟩ q 1 = (⟨k,(a : Int),(b : Int),c⟩,q)):=by
    cases c0 : isC M (a : Int) 1
    · cases c1 : isC M (b : Int) 1
      · cases c2 : isC M (a : Int) 0
        · cases c3 : isC M (b : Int) 0
          · cases c4 : ((a : Int) == (b : Int))
            · cases c5 : areT M (a : Int) (b : Int)
              · exact .inr (.inr (.inr (.inr (.inr (.inr (⟨rfl,rfl,rfl,rfl,rfl,rfl,by unfold aoL; simp [*] <;> rfl⟩))))))
              exact .inr (.inr (.inr (.inr (.inr (.inl ⟨rfl,rfl,rfl,rfl,rfl,rfl,by unfold aoL; simp [*] <;> rfl⟩)))))
            exact .inr (.inr (.inr (.inr (.inl ⟨rfl,rfl,rfl,rfl,rfl,by unfold aoL; simp [*] <;> rfl⟩))))
          exact .inr (.inr (.inr (.inl ⟨rfl,rfl,rfl,rfl,by unfold aoL; simp [*] <;> rfl⟩)))
        exact .inr (.inr (.inl ⟨rfl,rfl,rfl,by unfold aoL; simp [*] <;> rfl⟩))
      exact .inr (.inl ⟨rfl,rfl,by unfold aoL; simp [*] <;> rfl⟩)
    exact .inl ⟨rfl,by unfold aoL; simp [*] <;> rfl⟩
  rcases hcs with ⟨c0,e⟩ | ⟨c0,c1,e⟩ | ⟨c0,c1,c2,e⟩ | ⟨c0,c1,c2,c3,e⟩ | ⟨c0,c1,c2,c3,c4,e⟩ | ⟨c0,c1,c2,c3,c4,c5,e⟩ | ⟨c0,c1,c2,c3,c4,c5,e⟩
  all_goals rw [e]
  all_goals
    go_enter Try.func114,Try.ntmps114
    go_upto_region 1 with fail
    obtain ⟨w1,e1,z0,ZR,BW⟩:=mk2o w [.int .i64 k,.int .i64 (a : Int),.int .i64 (b : Int),.int .i64 c] [.int .i64 0,.int .i64 0,.int .i64 0,.int .i64 0] 43
    replace h:=h.on BW
    obtain ⟨s1,hs1,hle,hne⟩ : ∃ s1,w.heap.size + 1 = s1 ∧ w.heap.size ≤ s1 ∧ w.heap.size ≠ s1:=⟨_,rfl,by omega,by omega⟩
    rw [e1]
    clear e1
    rw [hs1] at ZR ⊢
    obtain ⟨z0c0,z0c1,z0c2,z0c3⟩:=z0.y4; obtain ⟨zr0,zf0,zr1,zf1,zr2,zf2,zr3,zf3⟩:=ZR.y8
    go_wp2_with ((first | (go_at_call 126; first | with_reducible refine (zaz h a ha 1 _ c0).mono ?_ | with_reducible refine (zaz h b hb 1 _ c1).mono ?_ | with_reducible refine (zaz h a ha 0 _ c2).mono ?_ | with_reducible refine (zaz h b hb 0 _ c3).mono ?_) | (go_at_call 127; first | with_reducible refine (zcF h a b ha hb _ c5).mono ?_) | (go_at_call 125; first | with_reducible refine (zby 1 _).mono ?_)); (rintro en w2 ⟨rfl,b⟩; clear z0c0 z0c1 z0c2 z0c3 zr0 zr1 zr2 zr3 zf0 zf1 zf2 zf3; replace h:=h.on b; replace z0:=z0.on b; replace ZR:=ZR.below b ZR.lt; replace BW:=Below.step BW b; clear b; obtain ⟨z0c0,z0c1,z0c2,z0c3⟩:=z0.y4; obtain ⟨zr0,zf0,zr1,zf1,zr2,zf2,zr3,zf3⟩:=ZR.y8))
    first
      | (refine bodyPost_ret (v:=.tuple #[ndA _,.int .i64 _]) ?_ rfl ⟨rfl,zbf BW hle⟩
         have HV:=fun a b c d => ZR.q4 a b c d
         simp [results,Try.results114,go_sem,HV,ndA])
      | (have bd : Below w2.heap.size w2 w2.drew:=(Below.refl _ _).drew
         obtain ⟨y0c0,y0c1,y0c2,y0c3⟩:=(z0.on bd).y4
         have YR:=ZR.below bd ZR.lt
         obtain ⟨yr0,yf0,yr1,yf1,yr2,yf2,yr3,yf3⟩:=YR.y8
         clear bd h
         go_region
         go_wp2_with fail
         refine bodyPost_ret (v:=.tuple #[ndA _,.int .i64 _]) ?_ rfl ⟨rfl,(zbf BW hle).drew⟩
         have HV:=fun a b c d => ZR.q4 a b c d
         simp [results,Try.results114,go_sem,HV,ndA])
set_option maxHeartbeats 16000000 in
theorem foldxor_as {w : World} {p : Nat} {M : List Nd} {S : List Int} (h : Fr w p M S) (k c q : Int) (a b : Nat) (ha : a < M.length) (hb : b < M.length) : Calls Try.prog 115 #[.pointer (some ⟨p,0,none⟩),.agg #[.int .i64 k,.int .i64 (a : Int),.int .i64 (b : Int),.int .i64 c],.int .i64 q] w fun e w' => e = .returned (.tuple #[ndA (xorL M ⟨k,(a : Int),(b : Int),c⟩ q).1,.int .i64 (xorL M ⟨k,(a : Int),(b : Int),c⟩ q).2]) ∧ Below w.heap.size w w':=by
  have hcs : (((a : Int) == (b : Int)) = true ∧ xorL M ⟨k,(a : Int),(b : Int),c⟩ q = (⟨0,0,0,0⟩,q)) ∨ (((a : Int) == (b : Int)) = false ∧ isC M (a : Int) 0 = true ∧ xorL M ⟨k,(a : Int),(b : Int),c⟩ q = (⟨k,(a : Int),(b : Int),c⟩,(b : Int))) ∨ (((a : Int) == (b : Int)) = false ∧ isC M (a : Int) 0 = false ∧ isC M (b : Int) 0 = true ∧ xorL M ⟨k,(a : Int),(b : Int),c⟩ q = (⟨k,(a : Int),(b : Int),c⟩,(a : Int))) ∨ (((a : Int) == (b : Int)) = false ∧ isC M (a : Int) 0 = false ∧ isC M (b : Int) 0 = false ∧ isC M (a : Int) 1 = true ∧ xorL M ⟨k,(a : Int),(b : Int),c⟩ q = (⟨2,(b : Int),0,0⟩,q)) ∨ (((a : Int) == (b : Int)) = false ∧ isC M (a : Int) 0 = false ∧ isC M (b : Int) 0 = false ∧ isC M (a : Int) 1 = false ∧ isC M (b : Int) 1 = true ∧ xorL M ⟨k,(a : Int),(b : Int),c⟩ q = (⟨2,(a : Int),0,0⟩,q)) ∨ (((a : Int) == (b : Int)) = false ∧ isC M (a : Int) 0 = false ∧ isC M (b : Int) 0 = false ∧ isC M (a : Int) 1 = false ∧ isC M (b : Int) 1 = false ∧ areT M (a : Int) (b : Int) = true ∧ xorL M ⟨k,(a : Int),(b : Int),c⟩ q = (⟨0,1,0,0⟩,q)) ∨ (((a : Int) == (b : Int)) = false ∧ isC M (a : Int) 0 = false ∧ isC M (b : Int) 0 = false ∧ isC M (a : Int) 1 = false ∧ isC M (b : Int) 1 = false ∧ areT M (a : Int) (b : Int) = false ∧ xorL M ⟨k,(a : Int),(b : Int),c⟩ q = (⟨k,(a : Int),(b : Int),c⟩,q)):=by
    cases c0 : ((a : Int) == (b : Int))
    · cases c1 : isC M (a : Int) 0
      · cases c2 : isC M (b : Int) 0
        · cases c3 : isC M (a : Int) 1
          · cases c4 : isC M (b : Int) 1
            · cases c5 : areT M (a : Int) (b : Int)
              · exact .inr (.inr (.inr (.inr (.inr (.inr (⟨rfl,rfl,rfl,rfl,rfl,rfl,by unfold xorL; simp [*] <;> rfl⟩))))))
              exact .inr (.inr (.inr (.inr (.inr (.inl ⟨rfl,rfl,rfl,rfl,rfl,rfl,by unfold xorL; simp [*] <;> rfl⟩)))))
            exact .inr (.inr (.inr (.inr (.inl ⟨rfl,rfl,rfl,rfl,rfl,by unfold xorL; simp [*] <;> rfl⟩))))
          exact .inr (.inr (.inr (.inl ⟨rfl,rfl,rfl,rfl,by unfold xorL; simp [*] <;> rfl⟩)))
        exact .inr (.inr (.inl ⟨rfl,rfl,rfl,by unfold xorL; simp [*] <;> rfl⟩))
      exact .inr (.inl ⟨rfl,rfl,by unfold xorL; simp [*] <;> rfl⟩)
    exact .inl ⟨rfl,by unfold xorL; simp [*] <;> rfl⟩
  rcases hcs with ⟨c0,e⟩ | ⟨c0,c1,e⟩ | ⟨c0,c1,c2,e⟩ | ⟨c0,c1,c2,c3,e⟩ | ⟨c0,c1,c2,c3,c4,e⟩ | ⟨c0,c1,c2,c3,c4,c5,e⟩ | ⟨c0,c1,c2,c3,c4,c5,e⟩
  all_goals rw [e]
  all_goals
    go_enter Try.func115,Try.ntmps115
    go_upto_region 1 with fail
    obtain ⟨w1,e1,z0,ZR,BW⟩:=mk2o w [.int .i64 k,.int .i64 (a : Int),.int .i64 (b : Int),.int .i64 c] [.int .i64 0,.int .i64 0,.int .i64 0,.int .i64 0] 43
    replace h:=h.on BW
    obtain ⟨s1,hs1,hle,hne⟩ : ∃ s1,w.heap.size + 1 = s1 ∧ w.heap.size ≤ s1 ∧ w.heap.size ≠ s1:=⟨_,rfl,by omega,by omega⟩
    rw [e1]
    clear e1
    rw [hs1] at ZR ⊢
    obtain ⟨z0c0,z0c1,z0c2,z0c3⟩:=z0.y4; obtain ⟨zr0,zf0,zr1,zf1,zr2,zf2,zr3,zf3⟩:=ZR.y8
    go_wp2_with ((first | (go_at_call 126; first | with_reducible refine (zaz h a ha 0 _ c1).mono ?_ | with_reducible refine (zaz h b hb 0 _ c2).mono ?_ | with_reducible refine (zaz h a ha 1 _ c3).mono ?_ | with_reducible refine (zaz h b hb 1 _ c4).mono ?_) | (go_at_call 127; first | with_reducible refine (zcF h a b ha hb _ c5).mono ?_) | (go_at_call 125; first | with_reducible refine (zby 0 _).mono ?_ | with_reducible refine (zby 1 _).mono ?_) | (go_at_call 128; first | with_reducible refine (zdA (a : Int) _).mono ?_ | with_reducible refine (zdA (b : Int) _).mono ?_)); (rintro en w2 ⟨rfl,b⟩; clear z0c0 z0c1 z0c2 z0c3 zr0 zr1 zr2 zr3 zf0 zf1 zf2 zf3; replace h:=h.on b; replace z0:=z0.on b; replace ZR:=ZR.below b ZR.lt; replace BW:=Below.step BW b; clear b; obtain ⟨z0c0,z0c1,z0c2,z0c3⟩:=z0.y4; obtain ⟨zr0,zf0,zr1,zf1,zr2,zf2,zr3,zf3⟩:=ZR.y8))
    first
      | (refine bodyPost_ret (v:=.tuple #[ndA _,.int .i64 _]) ?_ rfl ⟨rfl,zbf BW hle⟩
         have HV:=fun a b c d => ZR.q4 a b c d
         simp [results,Try.results115,go_sem,HV,ndA])
      | (have bd : Below w2.heap.size w2 w2.drew:=(Below.refl _ _).drew
         obtain ⟨y0c0,y0c1,y0c2,y0c3⟩:=(z0.on bd).y4
         have YR:=ZR.below bd ZR.lt
         obtain ⟨yr0,yf0,yr1,yf1,yr2,yf2,yr3,yf3⟩:=YR.y8
         clear bd h
         go_region
         go_wp2_with fail
         refine bodyPost_ret (v:=.tuple #[ndA _,.int .i64 _]) ?_ rfl ⟨rfl,(zbf BW hle).drew⟩
         have HV:=fun a b c d => ZR.q4 a b c d
         simp [results,Try.results115,go_sem,HV,ndA])
set_option maxHeartbeats 16000000 in
theorem foldmux_as {w : World} {p : Nat} {M : List Nd} {S : List Int} (h : Fr w p M S) (k q : Int) (a b c : Nat) (ha : a < M.length) (hb : b < M.length) (hc : c < M.length) : Calls Try.prog 116 #[.pointer (some ⟨p,0,none⟩),.agg #[.int .i64 k,.int .i64 (a : Int),.int .i64 (b : Int),.int .i64 (c : Int)],.int .i64 q] w fun e w' => e = .returned (.tuple #[ndA (muxL M ⟨k,(a : Int),(b : Int),(c : Int)⟩ q).1,.int .i64 (muxL M ⟨k,(a : Int),(b : Int),(c : Int)⟩ q).2]) ∧ Below w.heap.size w w':=by
  have hcs : (isC M (c : Int) 1 = true ∧ muxL M ⟨k,(a : Int),(b : Int),(c : Int)⟩ q = (⟨k,(a : Int),(b : Int),(c : Int)⟩,(b : Int))) ∨ (isC M (c : Int) 1 = false ∧ isC M (c : Int) 0 = true ∧ muxL M ⟨k,(a : Int),(b : Int),(c : Int)⟩ q = (⟨k,(a : Int),(b : Int),(c : Int)⟩,(a : Int))) ∨ (isC M (c : Int) 1 = false ∧ isC M (c : Int) 0 = false ∧ ((a : Int) == (b : Int)) = true ∧ muxL M ⟨k,(a : Int),(b : Int),(c : Int)⟩ q = (⟨k,(a : Int),(b : Int),(c : Int)⟩,(a : Int))) ∨ (isC M (c : Int) 1 = false ∧ isC M (c : Int) 0 = false ∧ ((a : Int) == (b : Int)) = false ∧ isC M (a : Int) 0 = true ∧ isC M (b : Int) 1 = true ∧ muxL M ⟨k,(a : Int),(b : Int),(c : Int)⟩ q = (⟨k,(a : Int),(b : Int),(c : Int)⟩,(c : Int))) ∨ (isC M (c : Int) 1 = false ∧ isC M (c : Int) 0 = false ∧ ((a : Int) == (b : Int)) = false ∧ isC M (a : Int) 0 = true ∧ isC M (b : Int) 1 = false ∧ isC M (a : Int) 1 = false ∧ muxL M ⟨k,(a : Int),(b : Int),(c : Int)⟩ q = (⟨3,(b : Int),(c : Int),0⟩,q)) ∨ (isC M (c : Int) 1 = false ∧ isC M (c : Int) 0 = false ∧ ((a : Int) == (b : Int)) = false ∧ isC M (a : Int) 0 = false ∧ isC M (a : Int) 1 = true ∧ isC M (b : Int) 0 = true ∧ muxL M ⟨k,(a : Int),(b : Int),(c : Int)⟩ q = (⟨2,(c : Int),0,0⟩,q)) ∨ (isC M (c : Int) 1 = false ∧ isC M (c : Int) 0 = false ∧ ((a : Int) == (b : Int)) = false ∧ isC M (a : Int) 0 = false ∧ isC M (a : Int) 1 = true ∧ isC M (b : Int) 0 = false ∧ isC M (b : Int) 1 = true ∧ muxL M ⟨k,(a : Int),(b : Int),(c : Int)⟩ q = (⟨4,(a : Int),(c : Int),0⟩,q)) ∨ (isC M (c : Int) 1 = false ∧ isC M (c : Int) 0 = false ∧ ((a : Int) == (b : Int)) = false ∧ isC M (a : Int) 0 = false ∧ isC M (a : Int) 1 = true ∧ isC M (b : Int) 0 = false ∧ isC M (b : Int) 1 = false ∧ muxL M ⟨k,(a : Int),(b : Int),(c : Int)⟩ q = (⟨k,(a : Int),(b : Int),(c : Int)⟩,q)) ∨ (isC M (c : Int) 1 = false ∧ isC M (c : Int) 0 = false ∧ ((a : Int) == (b : Int)) = false ∧ isC M (a : Int) 0 = false ∧ isC M (a : Int) 1 = false ∧ isC M (b : Int) 1 = true ∧ muxL M ⟨k,(a : Int),(b : Int),(c : Int)⟩ q = (⟨4,(a : Int),(c : Int),0⟩,q)) ∨ (isC M (c : Int) 1 = false ∧ isC M (c : Int) 0 = false ∧ ((a : Int) == (b : Int)) = false ∧ isC M (a : Int) 0 = false ∧ isC M (a : Int) 1 = false ∧ isC M (b : Int) 1 = false ∧ muxL M ⟨k,(a : Int),(b : Int),(c : Int)⟩ q = (⟨k,(a : Int),(b : Int),(c : Int)⟩,q)):=by
    cases c0 : isC M (c : Int) 1
    · cases c1 : isC M (c : Int) 0
      · cases c2 : ((a : Int) == (b : Int))
        · cases c3 : isC M (a : Int) 0
          · cases c5 : isC M (a : Int) 1
            · cases c4 : isC M (b : Int) 1
              · exact .inr (.inr (.inr (.inr (.inr (.inr (.inr (.inr (.inr (⟨rfl,rfl,rfl,rfl,rfl,rfl,by unfold muxL; simp [*] <;> rfl⟩)))))))))
              exact .inr (.inr (.inr (.inr (.inr (.inr (.inr (.inr (.inl ⟨rfl,rfl,rfl,rfl,rfl,rfl,by unfold muxL; simp [*] <;> rfl⟩))))))))
            cases c6 : isC M (b : Int) 0
            · cases c4 : isC M (b : Int) 1
              · exact .inr (.inr (.inr (.inr (.inr (.inr (.inr (.inl ⟨rfl,rfl,rfl,rfl,rfl,rfl,rfl,by unfold muxL; simp [*] <;> rfl⟩)))))))
              exact .inr (.inr (.inr (.inr (.inr (.inr (.inl ⟨rfl,rfl,rfl,rfl,rfl,rfl,rfl,by unfold muxL; simp [*] <;> rfl⟩))))))
            exact .inr (.inr (.inr (.inr (.inr (.inl ⟨rfl,rfl,rfl,rfl,rfl,rfl,by unfold muxL; simp [*] <;> rfl⟩)))))
          cases c4 : isC M (b : Int) 1
          · have c5 : isC M (a : Int) 1 = false:=isC_one c3
            exact .inr (.inr (.inr (.inr (.inl ⟨rfl,rfl,rfl,rfl,rfl,c5,by unfold muxL; simp [*] <;> rfl⟩))))
          exact .inr (.inr (.inr (.inl ⟨rfl,rfl,rfl,rfl,rfl,by unfold muxL; simp [*] <;> rfl⟩)))
        exact .inr (.inr (.inl ⟨rfl,rfl,rfl,by unfold muxL; simp [*] <;> rfl⟩))
      exact .inr (.inl ⟨rfl,rfl,by unfold muxL; simp [*] <;> rfl⟩)
    exact .inl ⟨rfl,by unfold muxL; simp [*] <;> rfl⟩
  rcases hcs with ⟨c0,e⟩ | ⟨c0,c1,e⟩ | ⟨c0,c1,c2,e⟩ | ⟨c0,c1,c2,c3,c4,e⟩ | ⟨c0,c1,c2,c3,c4,c5,e⟩ | ⟨c0,c1,c2,c3,c5,c6,e⟩ | ⟨c0,c1,c2,c3,c5,c6,c4,e⟩ | ⟨c0,c1,c2,c3,c5,c6,c4,e⟩ | ⟨c0,c1,c2,c3,c5,c4,e⟩ | ⟨c0,c1,c2,c3,c5,c4,e⟩
  all_goals rw [e]
  all_goals
    go_enter Try.func116,Try.ntmps116
    go_upto_region 1 with fail
    obtain ⟨w1,e1,z0,ZR,BW⟩:=mk2o w [.int .i64 k,.int .i64 (a : Int),.int .i64 (b : Int),.int .i64 (c : Int)] [.int .i64 0,.int .i64 0,.int .i64 0,.int .i64 0] 43
    replace h:=h.on BW
    obtain ⟨s1,hs1,hle,hne⟩ : ∃ s1,w.heap.size + 1 = s1 ∧ w.heap.size ≤ s1 ∧ w.heap.size ≠ s1:=⟨_,rfl,by omega,by omega⟩
    rw [e1]
    clear e1
    rw [hs1] at ZR ⊢
    obtain ⟨z0c0,z0c1,z0c2,z0c3⟩:=z0.y4; obtain ⟨zr0,zf0,zr1,zf1,zr2,zf2,zr3,zf3⟩:=ZR.y8
    go_wp2_with ((first | (go_at_call 126; first | with_reducible refine (zaz h c hc 1 _ c0).mono ?_ | with_reducible refine (zaz h c hc 0 _ c1).mono ?_ | with_reducible refine (zaz h a ha 0 _ c3).mono ?_ | with_reducible refine (zaz h b hb 1 _ c4).mono ?_ | with_reducible refine (zaz h a ha 1 _ c5).mono ?_ | with_reducible refine (zaz h b hb 0 _ c6).mono ?_) | (go_at_call 128; first | with_reducible refine (zdA (c : Int) _).mono ?_)); (rintro en w2 ⟨rfl,b⟩; clear z0c0 z0c1 z0c2 z0c3 zr0 zr1 zr2 zr3 zf0 zf1 zf2 zf3; replace h:=h.on b; replace z0:=z0.on b; replace ZR:=ZR.below b ZR.lt; replace BW:=Below.step BW b; clear b; obtain ⟨z0c0,z0c1,z0c2,z0c3⟩:=z0.y4; obtain ⟨zr0,zf0,zr1,zf1,zr2,zf2,zr3,zf3⟩:=ZR.y8))
    first
      | (refine bodyPost_ret (v:=.tuple #[ndA _,.int .i64 _]) ?_ rfl ⟨rfl,zbf BW hle⟩
         have HV:=fun a b c d => ZR.q4 a b c d
         simp [results,Try.results116,go_sem,HV,ndA])
      | (have bd : Below w2.heap.size w2 w2.drew:=(Below.refl _ _).drew
         obtain ⟨y0c0,y0c1,y0c2,y0c3⟩:=(z0.on bd).y4
         have YR:=ZR.below bd ZR.lt
         obtain ⟨yr0,yf0,yr1,yf1,yr2,yf2,yr3,yf3⟩:=YR.y8
         clear bd h
         go_region
         go_wp2_with fail
         refine bodyPost_ret (v:=.tuple #[ndA _,.int .i64 _]) ?_ rfl ⟨rfl,(zbf BW hle).drew⟩
         have HV:=fun a b c d => ZR.q4 a b c d
         simp [results,Try.results116,go_sem,HV,ndA])
end Go.Proofs.Ytcehklnonhalhaa
