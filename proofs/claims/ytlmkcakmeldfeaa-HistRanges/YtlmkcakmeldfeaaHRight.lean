/-
  Is a Range right? The document's answer.
-/
import Derived.Test.YtlmkcakmeldfeaaHTimes
import Derived.Test.YtlmkcakmeldfeaaHRHas
namespace Go.Proofs.Ytlmkcakmeldfeaa.Q
set_option maxRecDepth 100000
open Go.RowKit
open Go.Deep
theorem any_next {l : List Int} {f : Int → Bool} {j : Nat} (h : j < l.length) : (l.take (j + 1)).any f = ((l.take j).any f || f (l.getD j 0)) := by rw [take_next h 0, List.any_append]; simp
theorem all_next {l : List Int} {f : Int → Bool} {j : Nat} (h : j < l.length) : (l.take (j + 1)).all f = ((l.take j).all f && f (l.getD j 0)) := by rw [take_next h 0, List.all_append]; simp
theorem mpA_len {w : World} {ao : Option Addr} {n : Nat} {es : List Ev} (hv : Evs w ao n es) (t : Int) : (mpA es t).length ≤ n := by
  have h1 := mpF_len hv.wd (Q.filter_lt (es := es) (p := leB es t))
  have h2 := List.length_filter_le (leB es t) (ordOf es)
  have h3 := ord_len es
  have h4 := hv.len
  unfold mpA; omega
theorem rmap_at {w W' : World} {ao : Option Addr} {n : Nat} {es : List Ev} (cap : Nat) (t : Int) (hv : Evs w ao n es) (hl : n ≤ 1000) (k : Kept [] w W') :
    Calls Try.prog 18 #[.slice ao n cap, .int .i64 t] W' fun o w' => ∃ a m c, o = .returned (.slice a m c) ∧ Hid (MpV w' a m c (mpA es t)) ∧ Hid (m ≤ 1000) ∧ Kept [] w w' := by
  refine (rmap_any ao es n cap t W' (hv.new k) hl).mono ?_
  rintro o w' ⟨a, m, c, rfl, M, K⟩
  refine ⟨a, m, c, rfl, M, ?_, k.trans K⟩
  have := mpA_len hv t
  have := M.1
  show _ ≤ _; omega
theorem rhas_at {W' : World} {a : Option Addr} {m c : Nat} {es : List Ev} {t key : Int} {g : Bool} (hg : hasT es t key = g) (M : MpV W' a m c (mpA es t)) (hm : m ≤ 1000) :
    Calls Try.prog 56 #[.slice a m c, .int .u64 key] W' fun o w' => o = .returned (.bool g) ∧ Kept [] W' w' := by
  subst hg
  exact rhas_any a _ m c key W' M.1 M.2.1 hm
theorem rin_at {W' : World} {a : Option Addr} {m c : Nat} {ks : List Int} {key : Int} {g : Bool} (hg : decide (key ∈ ks) = g) (hn : m = ks.length) (hs : Sl W' a ks) (hm : m ≤ 1000) :
    Calls Try.prog 57 #[.slice a m c, .int .u64 key] W' fun o w' => o = .returned (.bool g) ∧ Kept [] W' w' := by
  subst hg
  exact rin_any a ks m c key W' hn hs hm
theorem lo_out {e : Ev} {k : Int} (h : ¬ e.op.k ≤ k ∨ ¬ k ≤ e.op.v) : loB e k = false := by
  unfold loB
  rcases h with h | h
  · rw [decide_eq_true (show k < e.op.k by omega)]; simp
  · rw [decide_eq_true (show e.op.v < k by omega)]; simp
theorem lo_mem {e : Ev} {k : Int} (h : k ∈ e.ks) : loB e k = false := by unfold loB; rw [decide_eq_true h]; rfl
theorem lo_by {e : Ev} {k : Int} (h : k ∉ e.ks → loB e k = !(byB e k)) (hb : byB e k = true) : loB e k = false := by
  by_cases q : k ∈ e.ks
  · exact lo_mem q
  · rw [h q, hb]; rfl
theorem byB_ne {e : Ev} {k : Int} (h : ¬ (e.ks.length : Int) = max e.op.n 0) : byB e k = false := by unfold byB; rw [decide_eq_false h]; rfl
theorem byB_zero {e : Ev} {k : Int} (h : (e.ks.length : Int) = max e.op.n 0) (h2 : max e.op.n 0 = 0) : byB e k = true := by unfold byB; rw [decide_eq_true h, decide_eq_true h2]; rfl
theorem byB_more {e : Ev} {k : Int} (h : (e.ks.length : Int) = max e.op.n 0) (h2 : e.ks.getD (e.ks.length - 1) 0 < k) : byB e k = true := by unfold byB; rw [decide_eq_true h, decide_eq_true h2]; simp
theorem byB_less {e : Ev} {k : Int} (h : (e.ks.length : Int) = max e.op.n 0) (h1 : 0 < e.ks.length) (h2 : ¬ e.ks.getD (e.ks.length - 1) 0 < k) : byB e k = false := by unfold byB; rw [decide_eq_true h, decide_eq_false h2, decide_eq_false (by omega)]; rfl
end Go.Proofs.Ytlmkcakmeldfeaa.Q
