/-
  The contracts that the statements of seq lean on: more.
-/
import Derived.Test.YtapbkonfjieadaaQLaw
namespace Go.Proofs.Ytapbkonfjieadaa.Q
set_option maxRecDepth 100000
open Go.RowKit
open Go.Deep
theorem wi_len (ps : List Pr) (p : Pr) : (wi ps p).length ≤ ps.length + 1 := by
  unfold wi blw abv
  rw [List.length_append, List.length_cons]
  have : ∀ a : List Pr, (a.filter (fun q => decide (q.k < p.k))).length + (a.filter (fun q => decide (p.k < q.k))).length ≤ a.length := by
    intro a
    induction a with
    | nil => simp
    | cons x a ih =>
      rw [List.filter_cons, List.filter_cons]
      have e1 : decide (x.k < p.k) = true → decide (p.k < x.k) = false := by simp; omega
      split
      · rename_i q; rw [e1 q]; simp; omega
      · split <;> simp <;> omega
  have := this ps; omega
theorem wo_len (ps : List Pr) (k : Int) : (wo ps k).length ≤ ps.length + 1 := by
  have := wi_len ps ⟨k, 0⟩; unfold wi at this; unfold wo; simp at this ⊢; omega
theorem doM_len (ps : List Pr) (o : OpQ) : (doM ps o).length ≤ ps.length + 1 := by
  unfold doM; split
  · exact wi_len _ _
  · split
    · exact wo_len _ _
    · omega
theorem doM_str {ps : List Pr} (h : Str ps) (o : OpQ) : Str (doM ps o) := by
  unfold doM; split
  · exact h.wi _
  · split
    · exact h.wo _
    · exact h
theorem doM_wd {ps : List Pr} (h : Wd ps) {o : OpQ} (hk : o.k ≤ 18446744073709551615) : Wd (doM ps o) := by
  unfold doM; split
  · intro x hx
    unfold wi at hx
    rcases List.mem_append.1 hx with q | q
    · exact h x (mem_blw.1 q).1
    · rcases List.mem_cons.1 q with r | r
      · subst r; exact hk
      · exact h x (mem_abv.1 r).1
  · split
    · intro x hx
      unfold wo at hx
      rcases List.mem_append.1 hx with q | q
      · exact h x (mem_blw.1 q).1
      · exact h x (mem_abv.1 q).1
    · exact h
theorem doK_len (ps : List Pr) (o : OpQ) : (doK ps o).length ≤ ps.length := by
  unfold doK; split
  · unfold rgK nbl
    rw [List.length_take, List.length_map]
    have a1 := List.length_filter_le (fun p : Pr => decide (p.k ≤ o.v)) (ps.filter (fun q => decide (o.k ≤ q.k)))
    have a2 := List.length_filter_le (fun q : Pr => decide (o.k ≤ q.k)) ps
    omega
  · simp
theorem mapOf_wd {es : List Pr} (h : ∀ x ∈ es, x.k ≤ 18446744073709551615) : Wd (mapOf es) := by
  intro x hx
  have f := (mapOf_str es).fd_mem hx
  rw [mapOf_fd] at f
  have := List.mem_of_find?_eq_some f
  exact h x (by simpa using this)
/-- An op of a row of ops. -/
theorem ops_row {w : World} {ao : Option Addr} {es : List OpQ} (h : SlOf 5 oC w ao es) {k : Nat} (hk : k < es.length) :
    ∃ b off, ao = some ⟨b, off, none⟩ ∧ b < w.heap.size ∧ w.cell? ⟨b, off + k * 5, none⟩ = some (.int .i64 (es.getD k default).d) ∧ w.cell? ⟨b, off + k * 5 + 1, none⟩ = some (.int .u64 (es.getD k default).k) ∧ w.cell? ⟨b, off + k * 5 + 2, none⟩ = some (.int .u64 (es.getD k default).v) ∧ w.cell? ⟨b, off + k * 5 + 3, none⟩ = some (.int .i64 (es.getD k default).n) ∧ w.cell? ⟨b, off + k * 5 + 4, none⟩ = some (.int .i64 (es.getD k default).t) := by
  obtain ⟨b, off, rfl, hb, hc⟩ := h (by omega)
  have e : es.getD k default = es[k] := by simp [hk]
  rw [e]
  exact ⟨b, off, rfl, hb, hc k hk 0 _ rfl, hc k hk 1 _ rfl, hc k hk 2 _ rfl, hc k hk 3 _ rfl, hc k hk 4 _ rfl⟩
theorem few_any (ao : Option Addr) (n cap : Nat) (w : World) : Calls Try.prog 16 #[.slice ao n cap] w fun o w' => o = .returned (.bool (decide ((n : Int) ≤ 100))) ∧ w' = w := by
  go_enter Try.func16, Try.ntmps16
  go_wp2
  go_ret
  exact ⟨rfl, rfl⟩
end Go.Proofs.Ytapbkonfjieadaa.Q
