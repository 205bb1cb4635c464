/-
  The contracts that the statements of seq lean on: Ceilings and Ranges.
-/
import Derived.Test.YtapbkonfjieadaaQLaw3
namespace Go.Proofs.Ytapbkonfjieadaa.Q
set_option maxRecDepth 100000
theorem head_nbl {ps : List Pr} {k : Int} {p : Pr} (h : (nbl ps k).head? = some p) : p ∈ ps ∧ k ≤ p.k := by
  have := List.mem_of_head? h; exact mem_nbl.1 this
theorem gtH_mem {ps : List Pr} (h : Str ps) {p : Pr} (hp : p ∈ ps) : gtH ps p.k = true := by unfold gtH; rw [h.fd_mem hp]; rfl
theorem between_none {ps : List Pr} (h : Str ps) {k o : Int} {p : Pr} (hf : (nbl ps k).head? = some p) (h1 : k ≤ o) (h2 : o < p.k) : gtH ps o = false := by
  unfold gtH
  cases e : fd ps o with
  | none => rfl
  | some q =>
    obtain ⟨m1, m2⟩ := fd_some e
    exfalso
    have m3 : q ∈ nbl ps k := mem_nbl.2 ⟨m1, by omega⟩
    have hs : Str (nbl ps k) := h.filter _
    cases hl : nbl ps k with
    | nil => rw [hl] at m3; cases m3
    | cons a l =>
      rw [hl] at hf m3 hs
      simp at hf
      subst hf
      rw [Str, List.pairwise_cons] at hs
      rcases List.mem_cons.1 m3 with r | r
      · subst r; omega
      · have := hs.1 q r; omega
end Go.Proofs.Ytapbkonfjieadaa.Q
