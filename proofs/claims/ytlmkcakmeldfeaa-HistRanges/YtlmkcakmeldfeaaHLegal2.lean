/-
  Which histories may be: the program's, whole.
-/
import Derived.Test.YtlmkcakmeldfeaaHExpl
namespace Go.Proofs.Ytlmkcakmeldfeaa.Q
set_option maxRecDepth 100000
open Go.RowKit
open Go.Deep
theorem legal_any (ao : Option Addr) (es : List Ev) (n cap : Nat) (w : World) (hv : Evs w ao n es) (hl : n ≤ 1000) (hk : Ksl es) :
    Calls Try.prog 19 #[.slice ao n cap] w fun o w' => o = .returned (.bool (lgB es)) ∧ Kept [] w w' := by
  have hc := containsF_any ao es n cap w hv hl hk
  have hx : Hid (∀ w1, Kept [] w w1 → Calls Try.prog 33 #[.slice ao n cap] w1 fun o w' => o = .returned (.bool (exB es (ordOf es) 0 [])) ∧ Kept [] w1 w') := fun w1 k => explained_any ao es n cap w1 (hv.new k) hl hk
  unfold lgB
  generalize es.any asB = A at hc ⊢
  generalize exB es (ordOf es) 0 [] = B at hx ⊢
  cases A
  · go_enter Try.func19, Try.ntmps19
    go_wp2_with fail
    refine hc.mono ?_
    rintro o w1 ⟨rfl, K1⟩
    clear hc
    go_wp2_with fail
    refine (hx.out _ K1).mono ?_
    rintro o w2 ⟨rfl, K2⟩
    go_wp2
    go_ret
    exact ⟨rfl, K1.trans K2⟩
  · go_enter Try.func19, Try.ntmps19
    go_wp2_with fail
    refine hc.mono ?_
    rintro o w1 ⟨rfl, K1⟩
    clear hc
    go_wp2
    go_ret
    exact ⟨rfl, K1⟩
end Go.Proofs.Ytlmkcakmeldfeaa.Q
