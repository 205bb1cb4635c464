/-
  Arguments: pairs, ops, an op, an answer, three words.
  The contracts that the statements of seq lean on, their answers under names.
  The contracts that the statements of seq lean on: more.
-/
import Derived.Test.YtlmkcakmeldfeaaQAlike
import Derived.Test.YtlmkcakmeldfeaaQRDoes
namespace Go.Proofs.Ytlmkcakmeldfeaa.Q
set_option maxRecDepth 100000
open Go.ChangeShapes Go.WideShapes Go.ChangeAt Go.RowKit
open Go.Deep
theorem flat_pair : (flat Try.prog 3 61) = some [.int .u64, .int .u64] := by kernel_rfl
theorem cells_pair : Try.prog.cellsOf 61 = 2 := by kernel_rfl
theorem word_le {x : Int} (h : (Lit.int .u64 x).wf = true) : x ≤ 18446744073709551615 := by
  simp [Lit.wf, IntKind.max, IntKind.min] at h; have h2 := h.2; simp [IntKind.bits, IntKind.signed] at h2; omega
theorem pair_cells {cs : List Value} (h : F2 [.int .u64, .int .u64] cs) : ∃ e : Pr, cs = pC e ∧ e.k ≤ 18446744073709551615 := by
  obtain ⟨a0, r, rfl, w0, h⟩ := F2_int h
  obtain ⟨a1, r, rfl, _, h⟩ := F2_int h
  obtain rfl := F2_nil h
  exact ⟨⟨a0, a1⟩, rfl, word_le w0⟩
theorem flat_op : (flat Try.prog 3 43) = some [.int .i64, .int .u64, .int .u64, .int .i64, .int .i64] := by kernel_rfl
theorem cells_op : Try.prog.cellsOf 43 = 5 := by kernel_rfl
def oC (o : OpQ) : List Value := [.int .i64 o.d, .int .u64 o.k, .int .u64 o.v, .int .i64 o.n, .int .i64 o.t]
instance : Inhabited OpQ := ⟨⟨0, 0, 0, 0, 0⟩⟩
theorem op_cells {cs : List Value} (h : F2 [.int .i64, .int .u64, .int .u64, .int .i64, .int .i64] cs) : ∃ o : OpQ, cs = oC o ∧ o.k ≤ 18446744073709551615 := by
  obtain ⟨a0, r, rfl, _, h⟩ := F2_int h
  obtain ⟨a1, r, rfl, w1, h⟩ := F2_int h
  obtain ⟨a2, r, rfl, _, h⟩ := F2_int h
  obtain ⟨a3, r, rfl, _, h⟩ := F2_int h
  obtain ⟨a4, r, rfl, _, h⟩ := F2_int h
  obtain rfl := F2_nil h
  exact ⟨⟨a0, a1, a2, a3, a4⟩, rfl, word_le w1⟩
section
variable {H : Type} {enc : TypeId × Value → H} {w : World} {r : Reach} {b0 base : Nat} {spare : Nat → Bool} {held : Bool} {v : Value} {d : DataW H} {p : List MemPlace}
theorem open_pairs (hv : Value.okWide Try.prog w r b0 31 v) (h : DataW.Trod enc Try.prog w 0 (fun _ => true) true 31 v d p) :
    ∃ ao cap es, v = .slice ao (List.length es) cap ∧ SlP w ao es ∧ (∀ x ∈ es, x.k ≤ 18446744073709551615) ∧ (ao = none → cap = 0) := by
  obtain ⟨ao, cap, xs, h1, h2, h3, h4, h5⟩ := open_slice_of (ks := [.int .u64, .int .u64]) pC (fun e => e.k ≤ 18446744073709551615) Try.underlying31 flat_pair cells_pair (by decide) (fun cs hF => pair_cells hF) hv h
  exact ⟨ao, cap, xs, h1, h2, h3, h5⟩
theorem open_ops (hv : Value.okWide Try.prog w r b0 50 v) (h : DataW.Trod enc Try.prog w 0 (fun _ => true) true 50 v d p) :
    ∃ ao cap es, v = .slice ao (List.length es) cap ∧ SlOf 5 oC w ao es ∧ (∀ x ∈ es, x.k ≤ 18446744073709551615) := by
  obtain ⟨ao, cap, xs, h1, h2, h3, h4, h5⟩ := open_slice_of (ks := [.int .i64, .int .u64, .int .u64, .int .i64, .int .i64]) oC (fun e => e.k ≤ 18446744073709551615) Try.underlying50 flat_op cells_op (by decide) (fun cs hF => op_cells hF) hv h
  exact ⟨ao, cap, xs, h1, h2, h3⟩
theorem open_op (hv : Value.okWide Try.prog w r b0 43 v) (h : DataW.Trod enc Try.prog w base spare held 43 v d p) : ∃ o : OpQ, v = .agg #[.int .i64 o.d, .int .u64 o.k, .int .u64 o.v, .int .i64 o.n, .int .i64 o.t] := by
  obtain ⟨cs, rfl, hF⟩ := flat_agg (Or.inl ⟨_, Try.underlying43⟩) flat_op hv h
  obtain ⟨e, hc, _⟩ := op_cells hF
  exact ⟨e, by rw [show cs = cs.toList.toArray by simp, hc]; rfl⟩
theorem open_words_cells {fuel : Nat} {cs : List Value} {x : DataW H × List MemPlace} (hd : DataW.trod enc Try.prog w 0 (fun _ => true) true fuel 44 cs = some x) :
    ∃ ao cap xs, cs = [.slice ao (List.length xs) cap] ∧ Sl w ao xs := by
  rcases Deep.open_slice Try.underlying44 hd with ⟨hcs, hx⟩ | ⟨ad, len', cap', m, n', D, Pl, hcs, hb, hl, hm, hmm, hx, hall⟩
  · exact ⟨none, 0, [], hcs, fun h => absurd h (by simp)⟩
  · have hml : len' ≤ m := by rw [hmm]; split <;> omega
    have each : ∀ i, i < len' → ∃ x : Int, True ∧ w.cell? (ad.add i) = some (.int .u64 x) := by
      intro i hi
      obtain ⟨cs', h1, h2⟩ := hall i (by omega)
      have hF := flat_trod 2 flat_u64 h2
      obtain ⟨a0, r, rfl, _, h⟩ := F2_int hF
      obtain rfl := F2_nil h
      rw [cells_u64] at h1
      have h3 := (World.cells?_some h1).2.2 0 (by simp)
      refine ⟨a0, trivial, ?_⟩
      rw [Deep.add_add] at h3
      simpa using h3
    obtain ⟨X, hX⟩ := choose_lt each
    refine ⟨some ad, cap', (List.range len').map X, by simpa using hcs, fun _ => ⟨ad, rfl, fun i hi => ?_⟩⟩
    simp at hi
    rw [(hX i hi).2]; simp
theorem open_answer (hv : Value.okWide Try.prog w r b0 46 v) (h : DataW.Trod enc Try.prog w 0 (fun _ => true) true 46 v d p) :
    ∃ (f hh : Bool) (g : Int) (ao : Option Addr) (cap : Nat) (ks : List Int), v = .agg #[.bool f, .bool hh, .int .u64 g, .slice ao (List.length ks) cap] ∧ Sl w ao ks := by
  obtain ⟨cs, rfl, hsz⟩ := okWide_struct Try.underlying46 hv
  obtain ⟨fuel, h⟩ := h
  have h' : DataW.trod enc Try.prog w 0 (fun _ => true) true fuel 46 cs.toList = some (d, p) := by simpa [Value.cells] using h
  obtain ⟨xs, m, _, _, hlen, hxl, hx⟩ := DataW.trod_struct Try.underlying46 h'
  have c4 : Try.prog.cellsOf 46 = 4 := by kernel_rfl
  have b1 : Try.prog.cellsOf 4 = 1 := by kernel_rfl
  have w1 : Try.prog.cellsOf 44 = 1 := by kernel_rfl
  rw [c4] at hlen
  have hxl4 : xs.length = 4 := hxl
  have x0 := hx 0 _ rfl
  have x1 := hx 1 _ rfl
  have x2 := hx 2 _ rfl
  have x3 := hx 3 _ rfl
  rw [List.getElem?_eq_getElem (by omega)] at x0 x1 x2 x3
  obtain ⟨f, e0, _⟩ := DataW.trod_bool Try.underlying4 x0
  obtain ⟨hh, e1, _⟩ := DataW.trod_bool Try.underlying4 x1
  obtain ⟨g, e2, _, _⟩ := DataW.trod_int Try.underlying41 x2
  obtain ⟨ao, cap, ks, e3, S⟩ := open_words_cells x3
  change List.take (Try.prog.cellsOf 4) (List.drop 0 cs.toList) = _ at e0
  change List.take (Try.prog.cellsOf 4) (List.drop 1 cs.toList) = _ at e1
  change List.take (Try.prog.cellsOf 41) (List.drop 2 cs.toList) = _ at e2
  change List.take (Try.prog.cellsOf 44) (List.drop 3 cs.toList) = _ at e3
  rw [b1] at e0 e1
  rw [cells_u64] at e2
  rw [w1] at e3
  refine ⟨f, hh, g, ao, cap, ks, ?_, S⟩
  match hcs : cs.toList, hlen with
  | [a, b, c, e], _ =>
    rw [hcs] at e0 e1 e2 e3
    simp at e0 e1 e2 e3
    subst e0 e1 e2 e3
    rw [show cs = cs.toList.toArray by simp, hcs]
end
end Go.Proofs.Ytlmkcakmeldfeaa.Q
namespace Go.Proofs.Ytlmkcakmeldfeaa.Q
set_option maxRecDepth 100000
open Go.RowKit
open Go.Deep
/-- Words of an answer. -/
def AnsP (w : World) (ao : Option Addr) (n : Nat) (ks : List Int) : Prop := n = ks.length ∧ Sl w ao ks ∧ n ≤ 1000
theorem AnsP.new {w w' : World} {ao : Option Addr} {n : Nat} {ks : List Int} (h : AnsP w ao n ks) (k : Kept [] w w') : AnsP w' ao n ks := ⟨h.1, h.2.1.new k, h.2.2⟩
theorem ssame_kw {W : World} {f1 h1 f2 h2 r : Bool} {g1 g2 : Int} {ao bo : Option Addr} {us vs : List Int} {n m ca cb : Nat} (ha : Hid (AnsP W ao n us)) (hb : Hid (AnsP W bo m vs)) (hr : Hid (smB f1 h1 g1 us f2 h2 g2 vs = r)) (p : KW W) :
    Calls Try.prog 53 #[.agg #[.bool f1, .bool h1, .int .u64 g1, .slice ao n ca], .agg #[.bool f2, .bool h2, .int .u64 g2, .slice bo m cb]] p.val fun o w'' => o = .returned (.bool r) ∧ ∃ q : KW W, w'' = q.val := by
  have e := hr.out
  subst e
  exact Calls.kw_of (ssame_any f1 h1 f2 h2 g1 g2 ao bo us vs n m ca cb p.val ha.out.1 hb.out.1 (ha.out.2.1.new p.kept) (hb.out.2.1.new p.kept) ha.out.2.2)
theorem rsame_kw {W : World} {f1 h1 f2 h2 r : Bool} {g1 g2 : Int} {ao bo : Option Addr} {us vs : List Int} {n m ca cb : Nat} (ha : Hid (AnsP W ao n us)) (hb : Hid (AnsP W bo m vs)) (hr : Hid (smB f1 h1 g1 us f2 h2 g2 vs = r)) (p : KW W) :
    Calls Try.prog 34 #[.agg #[.bool f1, .bool h1, .int .u64 g1, .slice ao n ca], .agg #[.bool f2, .bool h2, .int .u64 g2, .slice bo m cb]] p.val fun o w'' => o = .returned (.bool r) ∧ ∃ q : KW W, w'' = q.val := by
  have e := hr.out
  subst e
  exact Calls.kw_of (rsame_any f1 h1 f2 h2 g1 g2 ao bo us vs n m ca cb p.val ha.out.1 hb.out.1 (ha.out.2.1.new p.kept) (hb.out.2.1.new p.kept) ha.out.2.2)
theorem smB_self (f h : Bool) (g : Int) (us : List Int) : smB f h g us f h g us = true := by simp [smB]
theorem smB_comm (f1 h1 f2 h2 : Bool) (g1 g2 : Int) (us vs : List Int) : smB f2 h2 g2 vs f1 h1 g1 us = smB f1 h1 g1 us f2 h2 g2 vs := by
  unfold smB
  rw [show (f2 == f1) = (f1 == f2) by cases f1 <;> cases f2 <;> rfl, show (h2 == h1) = (h1 == h2) by cases h1 <;> cases h2 <;> rfl, show (g2 == g1) = (g1 == g2) from BEq.comm]
  congr 1
  by_cases h : us = vs
  · simp [h]
  · rw [decide_eq_false h, decide_eq_false (Ne.symm h)]
end Go.Proofs.Ytlmkcakmeldfeaa.Q
namespace Go.Proofs.Ytlmkcakmeldfeaa.Q
set_option maxRecDepth 100000
open Go.RowKit
open Go.Deep
theorem wi_len (ps : List Pr) (p : Pr) : (wi ps p).length ≤ ps.length + 1 := by
  unfold wi blw abv
  rw [List.length_append, List.length_cons]
  have : ∀ a : List Pr, (a.filter (fun q => decide (q.k < p.k))).length + (a.filter (fun q => decide (p.k < q.k))).length ≤ a.length := by
    intro a
    induction a with
    | nil => simp
    | cons x a ih =>
      rw [List.filter_cons, List.filter_cons]
      have e1 : decide (x.k < p.k) = true → decide (p.k < x.k) = false := by simp; omega
      split
      · rename_i q; rw [e1 q]; simp; omega
      · split <;> simp <;> omega
  have := this ps; omega
theorem wo_len (ps : List Pr) (k : Int) : (wo ps k).length ≤ ps.length + 1 := by
  have := wi_len ps ⟨k, 0⟩; unfold wi at this; unfold wo; simp at this ⊢; omega
theorem doM_len (ps : List Pr) (o : OpQ) : (doM ps o).length ≤ ps.length + 1 := by
  unfold doM; split
  · exact wi_len _ _
  · split
    · exact wo_len _ _
    · omega
theorem doM_str {ps : List Pr} (h : Str ps) (o : OpQ) : Str (doM ps o) := by
  unfold doM; split
  · exact h.wi _
  · split
    · exact h.wo _
    · exact h
theorem doM_wd {ps : List Pr} (h : Wd ps) {o : OpQ} (hk : o.k ≤ 18446744073709551615) : Wd (doM ps o) := by
  unfold doM; split
  · intro x hx
    unfold wi at hx
    rcases List.mem_append.1 hx with q | q
    · exact h x (mem_blw.1 q).1
    · rcases List.mem_cons.1 q with r | r
      · subst r; exact hk
      · exact h x (mem_abv.1 r).1
  · split
    · intro x hx
      unfold wo at hx
      rcases List.mem_append.1 hx with q | q
      · exact h x (mem_blw.1 q).1
      · exact h x (mem_abv.1 q).1
    · exact h
theorem doK_len (ps : List Pr) (o : OpQ) : (doK ps o).length ≤ ps.length := by
  unfold doK; split
  · unfold rgK nbl
    rw [List.length_take, List.length_map]
    have a1 := List.length_filter_le (fun p : Pr => decide (p.k ≤ o.v)) (ps.filter (fun q => decide (o.k ≤ q.k)))
    have a2 := List.length_filter_le (fun q : Pr => decide (o.k ≤ q.k)) ps
    omega
  · simp
theorem mapOf_wd {es : List Pr} (h : ∀ x ∈ es, x.k ≤ 18446744073709551615) : Wd (mapOf es) := by
  intro x hx
  have f := (mapOf_str es).fd_mem hx
  rw [mapOf_fd] at f
  have := List.mem_of_find?_eq_some f
  exact h x (by simpa using this)
/-- An op of a row of ops. -/
theorem ops_row {w : World} {ao : Option Addr} {es : List OpQ} (h : SlOf 5 oC w ao es) {k : Nat} (hk : k < es.length) :
    ∃ b off, ao = some ⟨b, off, none⟩ ∧ b < w.heap.size ∧ w.cell? ⟨b, off + k * 5, none⟩ = some (.int .i64 (es.getD k default).d) ∧ w.cell? ⟨b, off + k * 5 + 1, none⟩ = some (.int .u64 (es.getD k default).k) ∧ w.cell? ⟨b, off + k * 5 + 2, none⟩ = some (.int .u64 (es.getD k default).v) ∧ w.cell? ⟨b, off + k * 5 + 3, none⟩ = some (.int .i64 (es.getD k default).n) ∧ w.cell? ⟨b, off + k * 5 + 4, none⟩ = some (.int .i64 (es.getD k default).t) := by
  obtain ⟨b, off, rfl, hb, hc⟩ := h (by omega)
  have e : es.getD k default = es[k] := by simp [hk]
  rw [e]
  exact ⟨b, off, rfl, hb, hc k hk 0 _ rfl, hc k hk 1 _ rfl, hc k hk 2 _ rfl, hc k hk 3 _ rfl, hc k hk 4 _ rfl⟩
end Go.Proofs.Ytlmkcakmeldfeaa.Q
