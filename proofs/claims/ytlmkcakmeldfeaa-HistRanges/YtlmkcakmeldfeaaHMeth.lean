/-
  Events: what they are asked one by one, by the program and by the document.
-/
import Derived.Test.YtlmkcakmeldfeaaHEv
namespace Go.Proofs.Ytlmkcakmeldfeaa.Q
set_option maxRecDepth 100000
open Go.RowKit
open Go.Deep
def irB (e : Ev) : Bool := e.op.d == 5
def fuB (e : Ev) : Bool := e.dn && e.fu
def hpB (e : Ev) : Bool := decide (0 < e.at_) && (!irB e && !fuB e)
theorem isRange_any (e : Ev) (w : World) : Calls Try.prog 36 #[.agg (evA e)] w fun o w' => o = .returned (.bool (irB e)) ∧ Kept [] w w' := by
  have K := (Kept.refl [] w).alloc (.cells (evA e) 53)
  have Z := EB.new 53 w e
  have c1 := Z.c1
  clear Z
  go_enter Try.func36, Try.ntmps36
  go_wp2
  go_ret
  exact ⟨rfl, K⟩
theorem full_any (e : Ev) (w : World) : Calls Try.prog 46 #[.agg (evA e)] w fun o w' => o = .returned (.bool (fuB e)) ∧ Kept [] w w' := by
  have K := (Kept.refl [] w).alloc (.cells (evA e) 53)
  have Z := EB.new 53 w e
  have c9 := Z.c9
  have c10 := Z.c10
  clear Z
  unfold fuB
  generalize e.dn = dn at c9 ⊢
  cases dn
  · skip
    go_enter Try.func46, Try.ntmps46
    go_wp2
    go_ret
    exact ⟨rfl, K⟩
  · skip
    go_enter Try.func46, Try.ntmps46
    go_wp2
    go_ret
    exact ⟨rfl, K⟩
theorem wpList_load_g {ops : Array Oper} {rest : List Oper} {op : Oper} {a : Act} {w : World} {Q : Exit → Act → World → Prop} (T : TypeId) (hT : IsEv T) (hw : Region.wanted op (yielded ops a.tmps) = true) (x : Operand) (ho : op.op = .load T x)
    (b o : Nat) (hx : a.eval x = .pointer (some ⟨b, o, none⟩)) (e : Ev) (hc : w.rangeAt b o (evL e)) (h : wpList Try.prog ops Q rest (a.put op.dst (.agg (evA e))) w) : wpList Try.prog ops Q (op :: rest) a w := by
  obtain ⟨fs, hu⟩ := hT.2
  refine wpList_step fun K hK => ?_
  rw [if_pos hw]
  exact wp_load_mid T x ho b o hx (evL e) _ hc hu rfl (by rw [hT.1, evL_len]) (hK _ _ h)
theorem happened_any (e : Ev) (w : World) : Calls Try.prog 24 #[.agg (evA e)] w fun o w' => o = .returned (.bool (hpB e)) ∧ Kept [] w w' := by
  have K := (Kept.refl [] w).alloc (.cells (evA e) 53)
  have Z := EB.new 53 w e
  have c7 := Z.c7
  have hr := isRange_any e (w.alloc (.cells (evA e) 53))
  have hf := fun w1 => full_any e w1
  unfold hpB
  by_cases h : 0 < e.at_
  · generalize irB e = ir at hr
    generalize fuB e = fb at hf
    rw [decide_eq_true h]
    cases ir
    · go_enter Try.func24, Try.ntmps24
      go_wp2_with (first
        | (refine wpList_load_g 53 isEv_hist rfl (.tmp 1) rfl _ 0 rfl e Z.range ?_)
        | (go_at_call 36; refine hr.mono ?_; rintro o w1 ⟨rfl, K1⟩; have Z1 := Z.kept K1 (by simp); clear Z; have Z := Z1; clear Z1 c7)
        | (go_at_call 46; refine (hf _).mono ?_; rintro o w2 ⟨rfl, K2⟩))
      go_ret
      exact ⟨rfl, (K.trans K1).trans K2⟩
    · go_enter Try.func24, Try.ntmps24
      go_wp2_with (first
        | (refine wpList_load_g 53 isEv_hist rfl (.tmp 1) rfl _ 0 rfl e Z.range ?_)
        | (go_at_call 36; refine hr.mono ?_; rintro o w1 ⟨rfl, K1⟩))
      go_ret
      exact ⟨rfl, K.trans K1⟩
  · rw [decide_eq_false h]
    go_enter Try.func24, Try.ntmps24
    go_wp2
    go_ret
    exact ⟨rfl, K⟩
theorem rhappened_any (e : Ev) (w : World) : Calls Try.prog 28 #[.agg (evA e)] w fun o w' => o = .returned (.bool (hpB e)) ∧ Kept [] w w' := by
  have K := (Kept.refl [] w).alloc (.cells (evA e) 48)
  have Z := EB.new 48 w e
  have c1 := Z.c1
  have c7 := Z.c7
  have c9 := Z.c9
  have c10 := Z.c10
  clear Z
  unfold hpB irB fuB
  by_cases h5 : e.op.d = 5
  · have h5' : (e.op.d == 5) = true := by simpa using h5
    rw [h5']
    go_enter Try.func28, Try.ntmps28
    go_wp2
    go_ret
    exact ⟨by simp, K⟩
  · have h5' : (e.op.d == 5) = false := by simpa using h5
    rw [h5']
    by_cases h : 0 < e.at_
    · rw [decide_eq_true h]
      generalize e.dn = dn at c9 ⊢
      generalize e.fu = fu at c10 ⊢
      cases dn
      · go_enter Try.func28, Try.ntmps28
        go_wp2
        go_ret
        exact ⟨by first | rfl | (simp [h5]; done), K⟩
      · go_enter Try.func28, Try.ntmps28
        go_wp2
        go_ret
        exact ⟨by first | rfl | (simp [h5]; done), K⟩
    · rw [decide_eq_false h]
      go_enter Try.func28, Try.ntmps28
      go_wp2
      go_ret
      exact ⟨by first | rfl | (simp [h5]; done), K⟩
end Go.Proofs.Ytlmkcakmeldfeaa.Q
