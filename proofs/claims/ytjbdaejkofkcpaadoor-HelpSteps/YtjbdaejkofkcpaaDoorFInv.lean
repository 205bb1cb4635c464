/-
  Words, and what a store makes of them.
-/
import Derived.Test.YtjbdaejkofkcpaaDoorFMath
namespace Go.Proofs.YtjbdaejkofkcpaaDoor
open Go.RowKit (Grown Hid Below)
open Go.Deep
namespace K
set_option maxRecDepth 100000
def isW (x : Int) : Prop := 0 ≤ x ∧ x < 18446744073709551616
theorem rd_word {cs : List Int} (h : Wds cs) (x : Int) : isW (rdG cs x) := by
  rw [rdG_eq]; split
  · exact wd_getD h _
  · exact ⟨Int.le_refl _, by decide⟩
theorem fd_word {c : Cfg} {cs : List Int} (h : Wds cs) (i f : Int) : isW (fd c cs i f) := rd_word h _
theorem pl_word {x : Int} (h : isW x) : isW (plainV x) := by unfold isW at *; unfold plainV; omega
theorem wds_set {cs : List Int} (h : Wds cs) (n : Nat) {v : Int} (hv : isW v) : Wds (cs.set n v) := by
  intro x hx
  rcases List.mem_or_eq_of_mem_set hx with hx | rfl
  · exact h x hx
  · exact hv
theorem wds_clV {cs : List Int} (h : Wds cs) (k x old : Int) {v : Int} (hk : ¬ k = 4) (hv : isW v) : Wds (clV cs k x old v) := by
  unfold Go.Proofs.YtjbdaejkofkcpaaDoor.clV; split
  · refine wds_set h _ ?_
    unfold bhV; split
    · exact hv
    · split
      · split
        · exact hv
        · exact wd_getD h _
      · first | (rw [if_neg hk]; exact wd_getD h _) | exact wd_getD h _
  · exact h
theorem ld_o (cs : List Int) (x via : Int) : (acV cs 1 x via 0 0).o = rdG cs x := by unfold rdG acV; split <;> rfl
end K
end Go.Proofs.YtjbdaejkofkcpaaDoor
