/-
  What one step of a find changes, whatever the words are.
-/
import Derived.Test.YtgnkgkbjjeipbaaDoorFAt
import Derived.Test.YtgnkgkbjjeipbaaDoorFOnly
namespace Go.Proofs.YtgnkgkbjjeipbaaDoor
open Go.RowKit (Grown Hid Below)
open Go.Deep
namespace K
set_option maxRecDepth 100000
/-- The access of a step, where it changed a word: a reservation of the thread's, or a swap of a node's word. -/
def OnA (c : Cfg) (t : Int) (cs' : List Int) (a : Acc) : Prop :=
  (∃ j, whV c a.c = ⟨2, t, j⟩) ∨ (∃ i j, whV c a.c = ⟨3, i, j⟩ ∧ 6 ≤ j ∧ isW a.o ∧ isW a.n ∧ mkB a.o = false ∧ mkB a.n = false ∧ (¬ i = ixV a.o → mkB (fd c cs' (ixV a.o) j) = true ∧ plainV (fd c cs' (ixV a.o) j) = a.n))
theorem plain_isW {x : Int} (h : isW x) : isW (plainV x) := by unfold isW plainV at *; omega
theorem on_step {c : Cfg} {cs : List Int} {g : Gs} {f : Fm} {a : Acc} {cnt : Int} (X : Xv c cs f) (I : FI c f) (hl : (cs.length : Int) = lnV c) (hv : 0 ≤ lv c f) (hN : ¬ fN cnt f = cnt) (hA : ¬ (fA c cs g f a).o = (fA c cs g f a).n) : OnA c g.t (fC c cs g f) (fA c cs g f a) := by
  have hd : ¬ f.d = true := fun h => hN (if_pos h)
  rcases (by have := X.nx; omega : f.nx = 0 ∨ f.nx = 1 ∨ f.nx = 2 ∨ f.nx = 3 ∨ f.nx = 4 ∨ f.nx = 5) with e | e | e | e | e | e
  · exfalso; apply hA
    have z : fA c cs g f a = acV cs 1 (clV' c (ixV f.pr) (6 + lv c f)) (plainV f.pr) 0 0 := by unfold fA; rw [if_neg hd, e]; try rfl
    rw [z]; exact load_on _ _ _ _ _
  · exfalso; apply hA
    have z : fA c cs g f a = acV cs 1 0 0 0 0 := by unfold fA; rw [if_neg hd, e]; try rfl
    rw [z]; exact load_on _ _ _ _ _
  · have z : fA c cs g f a = acV cs 2 (rsV c g.t (pubN c g)) 0 0 f.era := by unfold fA; rw [if_neg hd, e]; try rfl
    rw [z] at hA ⊢
    exact Or.inl ⟨_, res_on hA⟩
  · exfalso; apply hA
    have z : fA c cs g f a = acV cs 1 (clV' c (ixV f.x) (6 + lv c f)) (plainV f.x) 0 0 := by unfold fA; rw [if_neg hd, e]; try rfl
    rw [z]; exact load_on _ _ _ _ _
  · have z : fA c cs g f a = acV cs 3 (clV' c (ixV f.pr) (6 + lv c f)) (plainV f.pr) f.x (plainV f.s) := by unfold fA; rw [if_neg hd, e]; try rfl
    have zc : fC c cs g f = clV cs 3 (clV' c (ixV f.pr) (6 + lv c f)) f.x (plainV f.s) := by unfold fC; rw [if_neg hd, if_neg (by omega), if_pos e]
    rw [z] at hA ⊢
    rw [zc]
    obtain ⟨hi, ec, ew, eo, en, er⟩ := swap_on hA
    refine Or.inr ⟨ixV f.pr, 6 + lv c f, by rw [ec]; exact ew, by omega, by rw [eo]; exact I.x, by rw [en]; exact plain_isW I.s, by rw [eo]; exact X.x (Or.inr (by omega)), by rw [en]; exact plain_mk _, fun hne => ?_⟩
    rw [eo] at hne ⊢
    rw [en, swap_other hl hi er hne]
    obtain ⟨m, es⟩ := X.s e
    rw [← es]
    exact ⟨m, rfl⟩
  · exfalso; apply hA
    have z : fA c cs g f a = acV cs 1 (clV' c (ixV f.x) 1) (plainV f.x) 0 0 := by unfold fA; rw [if_neg hd, e]; try rfl
    rw [z]; exact load_on _ _ _ _ _
end K
end Go.Proofs.YtgnkgkbjjeipbaaDoor
