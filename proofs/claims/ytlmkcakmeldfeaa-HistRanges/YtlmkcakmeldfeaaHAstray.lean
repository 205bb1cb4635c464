/-
  Events: is one not legal by itself?
-/
import Derived.Test.YtlmkcakmeldfeaaHMeth
namespace Go.Proofs.Ytlmkcakmeldfeaa.Q
set_option maxRecDepth 100000
open Go.RowKit
open Go.Deep
/-- Does an answer have nothing but Full? -/
def ofB (e : Ev) : Bool := smB e.fu e.ha e.go e.ks true false 0 []
def asB (e : Ev) : Bool := if irB e then false else if fuB e then (!(e.op.d == 2) || !ofB e) else if hpB e then (decide (e.at_ < e.bg) || (e.dn && decide (e.en < e.at_))) else e.dn
set_option maxHeartbeats 4000000 in
theorem astray_any (e : Ev) (w : World) (hs : Sl w e.ka e.ks) (hl : e.ks.length ≤ 1000) : Calls Try.prog 32 #[.agg (evA e)] w fun o w' => o = .returned (.bool (asB e)) ∧ Kept [] w w' := by
  have K := (Kept.refl [] w).alloc (.cells (evA e) 53)
  have Z := EB.new 53 w e
  have hr := isRange_any e (w.alloc (.cells (evA e) 53))
  have hf := fun w1 => full_any e w1
  have hp := fun w1 => happened_any e w1
  have hm := fun w1 (S : Sl w1 e.ka e.ks) => ssame_any e.fu e.ha true false e.go 0 e.ka none e.ks [] e.ks.length 0 e.kc 0 w1 rfl rfl S (fun h => absurd h (by simp)) hl
  unfold asB
  generalize irB e = ir at hr
  generalize fuB e = fb at hf
  generalize hpB e = pb at hp
  have HM : Hid _ := hm
  clear hm
  cases ir
  · rw [if_neg (by simp)]
    cases fb
    · rw [if_neg (by simp)]
      cases pb
      · rw [if_neg (by simp)]
        go_enter Try.func32, Try.ntmps32
        go_wp2_with (first
          | ((with_reducible change wpList _ _ _ (Oper.mk _ (Op.load 53 _) _ _ _ _ :: _) _ _); refine wpList_load_g 53 isEv_hist rfl (.tmp 1) rfl _ 0 rfl e Z.range ?_)
          | (go_at_call 36; refine hr.mono ?_; rintro o w1 ⟨rfl, K1⟩; have Z1 := Z.kept K1 (by simp); clear Z; have Z := Z1; clear Z1)
          | (go_at_call 46; refine (hf _).mono ?_; rintro o w2 ⟨rfl, K2⟩; have Z1 := Z.kept K2 (by simp); clear Z; have Z := Z1; clear Z1)
          | (go_at_call 24; refine (hp _).mono ?_; rintro o w3 ⟨rfl, K3⟩; have Z1 := Z.kept K3 (by simp); clear Z; have Z := Z1; clear Z1; have c9 := Z.c9))
        go_ret
        exact ⟨rfl, ((K.trans K1).trans K2).trans K3⟩
      · rw [if_pos rfl]
        by_cases g1 : e.at_ < e.bg
        · rw [decide_eq_true g1]
          go_enter Try.func32, Try.ntmps32
          go_wp2_with (first
            | ((with_reducible change wpList _ _ _ (Oper.mk _ (Op.load 53 _) _ _ _ _ :: _) _ _); refine wpList_load_g 53 isEv_hist rfl (.tmp 1) rfl _ 0 rfl e Z.range ?_)
            | (go_at_call 36; refine hr.mono ?_; rintro o w1 ⟨rfl, K1⟩; have Z1 := Z.kept K1 (by simp); clear Z; have Z := Z1; clear Z1)
            | (go_at_call 46; refine (hf _).mono ?_; rintro o w2 ⟨rfl, K2⟩; have Z1 := Z.kept K2 (by simp); clear Z; have Z := Z1; clear Z1)
            | (go_at_call 24; refine (hp _).mono ?_; rintro o w3 ⟨rfl, K3⟩; have Z1 := Z.kept K3 (by simp); clear Z; have Z := Z1; clear Z1; have c7 := Z.c7; have c6 := Z.c6))
          go_ret
          exact ⟨rfl, ((K.trans K1).trans K2).trans K3⟩
        · rw [decide_eq_false g1]
          have HD : Hid _ := fun (w1 : World) (b : Nat) (z : EB 53 w1 b e) => z.c9
          generalize hdn : e.dn = dn at HD ⊢
          cases dn
          all_goals
            go_enter Try.func32, Try.ntmps32
            go_wp2_with (first
              | ((with_reducible change wpList _ _ _ (Oper.mk _ (Op.load 53 _) _ _ _ _ :: _) _ _); refine wpList_load_g 53 isEv_hist rfl (.tmp 1) rfl _ 0 rfl e Z.range ?_)
              | (go_at_call 36; refine hr.mono ?_; rintro o w1 ⟨rfl, K1⟩; have Z1 := Z.kept K1 (by simp); clear Z; have Z := Z1; clear Z1)
              | (go_at_call 46; refine (hf _).mono ?_; rintro o w2 ⟨rfl, K2⟩; have Z1 := Z.kept K2 (by simp); clear Z; have Z := Z1; clear Z1)
              | (go_at_call 24; refine (hp _).mono ?_; rintro o w3 ⟨rfl, K3⟩; have Z1 := Z.kept K3 (by simp); clear Z; have Z := Z1; clear Z1; have c7 := Z.c7; have c6 := Z.c6; have c8 := Z.c8; have c9 := HD.out _ _ Z))
            go_ret
            exact ⟨by first | rfl | (simp [g1]; done) | (simp; omega), ((K.trans K1).trans K2).trans K3⟩
    · rw [if_pos rfl]
      by_cases g1 : e.op.d = 2
      · have g2 : (e.op.d == 2) = true := by simpa using g1
        rw [g2]
        unfold ofB
        generalize hB : smB e.fu e.ha e.go e.ks true false 0 [] = B at HM
        go_enter Try.func32, Try.ntmps32
        go_wp2_with (first
          | ((with_reducible change wpList _ _ _ (Oper.mk _ (Op.load 53 _) _ _ _ _ :: _) _ _); refine wpList_load_g 53 isEv_hist rfl (.tmp 1) rfl _ 0 rfl e Z.range ?_)
          | (go_at_call 36; refine hr.mono ?_; rintro o w1 ⟨rfl, K1⟩; have Z1 := Z.kept K1 (by simp); clear Z; have Z := Z1; clear Z1)
          | (go_at_call 46; refine (hf _).mono ?_; rintro o w2 ⟨rfl, K2⟩; have Z1 := Z.kept K2 (by simp); clear Z; have Z := Z1; clear Z1; have c1 := Z.c1; have c10 := Z.c10; have c11 := Z.c11; have c12 := Z.c12; have c13 := Z.c13; rw [g1] at c1)
          | (go_at_call 53; refine (HM.out _ (hs.new ((K.trans K1).trans K2))).mono ?_; rintro o w3 ⟨rfl, K3⟩))
        go_ret
        exact ⟨rfl, ((K.trans K1).trans K2).trans K3⟩
      · have g2 : (e.op.d == 2) = false := by simpa using g1
        rw [g2]
        go_enter Try.func32, Try.ntmps32
        go_wp2_with (first
          | ((with_reducible change wpList _ _ _ (Oper.mk _ (Op.load 53 _) _ _ _ _ :: _) _ _); refine wpList_load_g 53 isEv_hist rfl (.tmp 1) rfl _ 0 rfl e Z.range ?_)
          | (go_at_call 36; refine hr.mono ?_; rintro o w1 ⟨rfl, K1⟩; have Z1 := Z.kept K1 (by simp); clear Z; have Z := Z1; clear Z1)
          | (go_at_call 46; refine (hf _).mono ?_; rintro o w2 ⟨rfl, K2⟩; have Z1 := Z.kept K2 (by simp); clear Z; have Z := Z1; clear Z1; have c1 := Z.c1))
        go_ret
        exact ⟨rfl, (K.trans K1).trans K2⟩
  · rw [if_pos rfl]
    go_enter Try.func32, Try.ntmps32
    go_wp2_with (first
      | ((with_reducible change wpList _ _ _ (Oper.mk _ (Op.load 53 _) _ _ _ _ :: _) _ _); refine wpList_load_g 53 isEv_hist rfl (.tmp 1) rfl _ 0 rfl e Z.range ?_)
      | (go_at_call 36; refine hr.mono ?_; rintro o w1 ⟨rfl, K1⟩))
    go_ret
    exact ⟨rfl, K.trans K1⟩
end Go.Proofs.Ytlmkcakmeldfeaa.Q
