/-
  For every two states and generations and every two values: the words made of them, where there are both, are the same just if they are; the law SlotApart answers true, and the arguments read as they did.
  Conditions: none.
-/
import Derived.Test.YtpnacciechcnlaaAlive
import Derived.Laws.IdiomArrays
import Derived.ProofKit
namespace Go.Proofs.Ytpnacciechcnlaa
open Go.ChangeShapes Go.WideShapes Go.ChangeAt Go.RowKit

theorem trod_array2 {H : Type} {enc : TypeId × Value → H} {P : Program} {w : World} {base : Nat} {spare : Nat → Bool} {held : Bool} {t e : TypeId} {fuel : Nat} {c0 c1 : Value} {x : DataW H × List MemPlace} (ht : P.underlying t = some (.array 2 e)) (hce : P.cellsOf e = 1)
    (h : DataW.trod enc P w base spare held fuel t [c0, c1] = some x) :
    ∃ y0 y1 n, x = (.agg [y0.1, y1.1], y0.2 ++ y1.2) ∧ DataW.trod enc P w base spare held n e [c0] = some y0 ∧ DataW.trod enc P w base spare held n e [c1] = some y1 := by
  cases fuel with
  | zero => simp [DataW.trod] at h
  | succ n =>
    unfold DataW.trod at h
    rw [ht] at h
    have r3 : List.range 2 = [0, 1] := rfl
    simp [r3, hce] at h
    obtain ⟨_, h⟩ := h
    cases h0 : DataW.trod enc P w base spare held n e [c0] with
    | none => simp [h0] at h
    | some y0 =>
      cases h1 : DataW.trod enc P w base spare held n e [c1] with
      | none => simp [h0, h1] at h
      | some y1 =>
        simp [h0, h1] at h
        exact ⟨y0, y1, n, h.symm, h0, h1⟩
theorem c32 : Try.prog.cellsOf 32 = 2 := by kernel_rfl
theorem c33 : Try.prog.cellsOf 33 = 2 := by kernel_rfl
theorem c3 : Try.prog.cellsOf 3 = 1 := by kernel_rfl
theorem c22 : Try.prog.cellsOf 22 = 1 := by kernel_rfl
theorem agg_of {W : World} {base t : Nat} {v : Value} {n e : Nat} (ht : Try.prog.underlying t = some (.array n e)) (hc : Try.prog.cellsOf t = 2) (h : Value.okWide Try.prog W .any base t v) : ∃ c0 c1, v = .agg #[c0, c1] := by
  obtain ⟨cs, rfl, hsz, _⟩ : ∃ cs, v = .agg cs ∧ cs.size = Try.prog.cellsOf t ∧ Row.okWide Try.prog W .any base t cs := by
    simpa [Value.okWide, ht] using h
  rw [hc] at hsz
  obtain ⟨l⟩ := cs
  match l, hsz with
  | [a, b], _ => exact ⟨a, b, rfl⟩
theorem open_ints2 {H : Type} {enc : TypeId × Value → H} {W : World} {b0 base : Nat} {sp : Nat → Bool} {held : Bool} {v : Value} {d : DataW H} {p : List MemPlace} (h : Value.okWide Try.prog W .any b0 32 v) (hd : DataW.Trod enc Try.prog W base sp held 32 v d p) :
    ∃ x y, v = .agg #[.int .i64 x, .int .i64 y] ∧ d = .agg [.lit (.int .i64 x), .lit (.int .i64 y)] ∧ p = [] ∧ (Lit.int .i64 x).wf = true ∧ (Lit.int .i64 y).wf = true := by
  obtain ⟨c0, c1, rfl⟩ := agg_of Try.underlying32 c32 h
  obtain ⟨fuel, hf⟩ := hd
  obtain ⟨y0, y1, n, hx, g0, g1⟩ := trod_array2 (c0 := c0) (c1 := c1) Try.underlying32 c3 (by simpa [Value.cells] using hf)
  obtain ⟨x, e0, rfl, wx⟩ := DataW.trod_int Try.underlying3 g0
  obtain ⟨y, e1, rfl, wy⟩ := DataW.trod_int Try.underlying3 g1
  simp at e0 e1
  subst e0 e1
  simp only [Prod.mk.injEq] at hx
  exact ⟨x, y, rfl, hx.1, by simpa using hx.2, wx, wy⟩
theorem shut_ints2 {H : Type} {enc : TypeId × Value → H} {W : World} {base : Nat} {sp : Nat → Bool} {held : Bool} {x y : Int} (wx : (Lit.int .i64 x).wf = true) (wy : (Lit.int .i64 y).wf = true) :
    DataW.Trod enc Try.prog W base sp held 32 (.agg #[.int .i64 x, .int .i64 y]) (.agg [.lit (.int .i64 x), .lit (.int .i64 y)]) [] := by
  refine ⟨2, ?_⟩
  have r3 : List.range 2 = [0, 1] := rfl
  simp [DataW.trod, Value.cells, Try.underlying32, Try.underlying3, c32, c3, r3, wx, wy]
theorem open_words2 {H : Type} {enc : TypeId × Value → H} {W : World} {b0 base : Nat} {sp : Nat → Bool} {held : Bool} {v : Value} {d : DataW H} {p : List MemPlace} (h : Value.okWide Try.prog W .any b0 33 v) (hd : DataW.Trod enc Try.prog W base sp held 33 v d p) :
    ∃ x y, v = .agg #[.int .u64 x, .int .u64 y] ∧ d = .agg [.lit (.int .u64 x), .lit (.int .u64 y)] ∧ p = [] ∧ (Lit.int .u64 x).wf = true ∧ (Lit.int .u64 y).wf = true := by
  obtain ⟨c0, c1, rfl⟩ := agg_of Try.underlying33 c33 h
  obtain ⟨fuel, hf⟩ := hd
  obtain ⟨y0, y1, n, hx, g0, g1⟩ := trod_array2 (c0 := c0) (c1 := c1) Try.underlying33 c22 (by simpa [Value.cells] using hf)
  obtain ⟨x, e0, rfl, wx⟩ := DataW.trod_int Try.underlying22 g0
  obtain ⟨y, e1, rfl, wy⟩ := DataW.trod_int Try.underlying22 g1
  simp at e0 e1
  subst e0 e1
  simp only [Prod.mk.injEq] at hx
  exact ⟨x, y, rfl, hx.1, by simpa using hx.2, wx, wy⟩
theorem shut_words2 {H : Type} {enc : TypeId × Value → H} {W : World} {base : Nat} {sp : Nat → Bool} {held : Bool} {x y : Int} (wx : (Lit.int .u64 x).wf = true) (wy : (Lit.int .u64 y).wf = true) :
    DataW.Trod enc Try.prog W base sp held 33 (.agg #[.int .u64 x, .int .u64 y]) (.agg [.lit (.int .u64 x), .lit (.int .u64 y)]) [] := by
  refine ⟨2, ?_⟩
  have r3 : List.range 2 = [0, 1] := rfl
  simp [DataW.trod, Value.cells, Try.underlying33, Try.underlying22, c33, c22, r3, wx, wy]
theorem part3 (xs : Array Value) (n : Nat) (v : Value) (h : xs[n]? = some v) (w : World) : Sem.run Try.prog (part 3 xs n) w = .ok v w := by
  have ha : ∀ w, Sem.run Try.prog (isAgg 3) w = .ok false w := fun _ => by kernel_rfl
  unfold part
  simp [Sem.run_bind, ha, h]
theorem eq_pair (a0 a1 b0 b1 : Int) (w : World) :
    Sem.run Try.prog (Op.equalIn 10000 32 (.agg #[.int .i64 a0, .int .i64 a1]) (.agg #[.int .i64 b0, .int .i64 b1])) w = .ok (a0 == b0 && a1 == b1) w := by
  have hs : ∀ w, Sem.run Try.prog (sizeOf 3) w = .ok 1 w := fun _ => by kernel_rfl
  have he := fun (a b : Int) w => run_equalIn_int (P := Try.prog) w 9998 3 .i64 .i64 a b Try.underlying3
  have ha0 : ∀ w, Sem.run Try.prog (part 3 #[Value.int IntKind.i64 a0, Value.int IntKind.i64 a1] 0) w = .ok (.int .i64 a0) w := fun w => part3 _ 0 _ rfl w
  have ha1 : ∀ w, Sem.run Try.prog (part 3 #[Value.int IntKind.i64 a0, Value.int IntKind.i64 a1] 1) w = .ok (.int .i64 a1) w := fun w => part3 _ 1 _ rfl w
  have hb0 : ∀ w, Sem.run Try.prog (part 3 #[Value.int IntKind.i64 b0, Value.int IntKind.i64 b1] 0) w = .ok (.int .i64 b0) w := fun w => part3 _ 0 _ rfl w
  have hb1 : ∀ w, Sem.run Try.prog (part 3 #[Value.int IntKind.i64 b0, Value.int IntKind.i64 b1] 1) w = .ok (.int .i64 b1) w := fun w => part3 _ 1 _ rfl w
  rw [show (10000 : Nat) = 9999 + 1 from rfl, Op.equalIn]
  simp only [Sem.run_bind, run_underlying Try.underlying32, Result.andThen_ok, hs, Nat.mul_one]
  cases e0 : (a0 == b0) <;> cases e1 : (a1 == b1) <;>
    simp [Std.Legacy.Range.forIn_eq_forIn_range', Std.Legacy.Range.size, List.range', Sem.run_bind, ha0, ha1, hb0, hb1, he, e0, e1]
structure BW (B : Nat) (w1 : World) (a0 a1 b0 b1 z0 z1 : Int) : Prop where
  x0 : w1.cell? ⟨B, 0, none⟩ = some (.int .i64 a0)
  x1 : w1.cell? ⟨B, 1, none⟩ = some (.int .i64 a1)
  y0 : w1.cell? ⟨B + 1, 0, none⟩ = some (.int .i64 b0)
  y1 : w1.cell? ⟨B + 1, 1, none⟩ = some (.int .i64 b1)
  z0 : w1.cell? ⟨B + 1 + 1, 0, none⟩ = some (.int .u64 z0)
  z1 : w1.cell? ⟨B + 1 + 1, 1, none⟩ = some (.int .u64 z1)
  lt : B + 2 < w1.heap.size
theorem BW.grown {B : Nat} {w w' : World} {a0 a1 b0 b1 u v : Int} (h : BW B w a0 a1 b0 b1 u v) (g : Grown w w') : BW B w' a0 a1 b0 b1 u v := by
  have h1 : B < w.heap.size := by have := h.lt; omega
  have h2 : B + 1 < w.heap.size := by have := h.lt; omega
  have h3 : B + 1 + 1 < w.heap.size := by have := h.lt; omega
  exact ⟨(grown_cell g h1).trans h.x0, (grown_cell g h1).trans h.x1, (grown_cell g h2).trans h.y0, (grown_cell g h2).trans h.y1, (grown_cell g h3).trans h.z0, (grown_cell g h3).trans h.z1, Nat.lt_of_lt_of_le h.lt g.2.2⟩
theorem BW.new (w : World) (a0 a1 b0 b1 u v : Int) : BW w.heap.size (((w.alloc (.cells #[.int .i64 a0, .int .i64 a1] 32)).alloc (.cells #[.int .i64 b0, .int .i64 b1] 32)).alloc (.cells #[.int .u64 u, .int .u64 v] 33)) a0 a1 b0 b1 u v :=
  ⟨by go_simp, by go_simp, by go_simp, by go_simp, by go_simp, by go_simp, by simp⟩
theorem grown_drewN {a b : World} (h : Grown a b) (n : Nat) : Grown a (b.drewN n) := by
  induction n with
  | zero => exact h
  | succ n ih => exact ih.drew
/-- What Meta and Value tell of anything: the word, or 0. -/
def mtV (s g : Int) : Int := if meB s g then meV s g else 0
def vtV (v : Int) : Int := if vaB v then v * 2 else 0
theorem meta_any (s g : Int) (w0 w : World) (hS : Grown w0 w) :
    Calls Try.prog 9 #[.int .i64 s, .int .i64 g] w fun e w' => e = .returned (.tuple #[.int .u64 (mtV s g), .bool (meB s g)]) ∧ Grown w0 w' := by
  unfold mtV
  cases h : meB s g
  · simpa using meta_no s g w0 w hS h
  · simpa using meta_yes s g w0 w hS h
theorem value_any (v : Int) (w0 w : World) (hS : Grown w0 w) (h0 : 0 ≤ v) (h1 : v < 18446744073709551616) :
    Calls Try.prog 24 #[.int .u64 v] w fun e w' => e = .returned (.tuple #[.int .u64 (vtV v), .bool (vaB v)]) ∧ Grown w0 w' := by
  unfold vtV
  by_cases h : v < 9223372036854775808
  · have e : vaB v = true := decide_eq_true h
    rw [e]; simpa using value_yes v w0 w hS h0 h
  · have e : vaB v = false := decide_eq_false h
    rw [e]; simpa using value_no v w0 w hS (by omega) h1
theorem mt_eq (a0 a1 b0 b1 : Int) (h : meB a0 a1 = true) (k : meB b0 b1 = true) : (mtV a0 a1 == mtV b0 b1) = (a0 == b0 && a1 == b1) := by
  unfold mtV; rw [h, k]
  obtain ⟨i0, i1, g0, g1⟩ := meB_true h
  obtain ⟨j0, j1, f0, f1⟩ := meB_true k
  unfold meV
  rw [Bool.eq_iff_iff]
  simp only [Bool.and_eq_true, beq_iff_eq, if_true]
  omega
theorem vt_eq (u v : Int) (h : vaB u = true) (k : vaB v = true) : (vtV u == vtV v) = (u == v) := by
  unfold vtV; rw [h, k, Bool.eq_iff_iff]
  simp only [beq_iff_eq, if_true]
  omega
set_option maxRecDepth 100000 in
set_option maxHeartbeats 2000000 in
theorem slotApart_walk (a0 a1 b0 b1 u v : Int) (wu : (Lit.int .u64 u).wf = true) (wv : (Lit.int .u64 v).wf = true) (w : World) :
    Calls Try.prog 7 #[.agg #[.int .i64 a0, .int .i64 a1], .agg #[.int .i64 b0, .int .i64 b1], .agg #[.int .u64 u, .int .u64 v]] w fun e w' => e = .returned (.bool true) ∧ Grown w w' := by
  obtain ⟨u0, u1'⟩ := bounds_u64 wu
  have u1 : u < 18446744073709551616 := by omega
  obtain ⟨v0, v1'⟩ := bounds_u64 wv
  have v1 : v < 18446744073709551616 := by omega
  clear u1' v1' wu wv
  have heq := eq_pair
  have GA := (((Grown.refl w).alloc #[.int .i64 a0, .int .i64 a1] 32).alloc #[.int .i64 b0, .int .i64 b1] 32).alloc #[.int .u64 u, .int .u64 v] 33
  have B0 := BW.new w a0 a1 b0 b1 u v
  go_enter Try.func7, Try.ntmps7
  go_wp2_with fail
  generalize ((w.alloc (.cells #[.int .i64 a0, .int .i64 a1] 32)).alloc (.cells #[.int .i64 b0, .int .i64 b1] 32)).alloc (.cells #[.int .u64 u, .int .u64 v] 33) = W0 at GA B0 ⊢
  obtain ⟨x0, x1, y0, y1, z0, z1, _⟩ := id B0
  go_quiet (fail)
  go_wp2_with fail
  have S0 : Grown W0 (W0.drewN nq) := grown_drewN (Grown.refl W0) nq
  generalize W0.drewN nq = W1 at S0 ⊢
  refine (meta_any a0 a1 W0 _ S0).mono ?_
  rintro e w1 ⟨rfl, S1⟩
  clear x0 x1 y0 y1 z0 z1
  obtain ⟨x0, x1, y0, y1, z0, z1, _⟩ := B0.grown S1
  go_wp2_with fail
  refine (meta_any b0 b1 W0 _ S1).mono ?_
  rintro e w2 ⟨rfl, S2⟩
  clear x0 x1 y0 y1 z0 z1
  go_wp2_with fail
  refine (value_any u W0 _ S2 u0 u1).mono ?_
  rintro e w3 ⟨rfl, S3⟩
  go_wp2_with fail
  refine (value_any v W0 _ S3 v0 v1).mono ?_
  rintro e w4 ⟨rfl, S4⟩
  go_wp2_with fail
  refine (alive_any W0 _ S4).mono ?_
  rintro e w5 ⟨rfl, S5⟩
  obtain ⟨x0, x1, y0, y1, z0, z1, _⟩ := B0.grown S5
  have GG := grown_trans GA S5
  have E1 : meB a0 a1 = false ∨ (meB a0 a1 = true ∧ meB b0 b1 = false) ∨ (meB a0 a1 = true ∧ meB b0 b1 = true ∧ (mtV a0 a1 == mtV b0 b1) = (a0 == b0 && a1 == b1)) := by
    cases h : meB a0 a1 <;> cases k : meB b0 b1 <;> simp
    exact mt_eq a0 a1 b0 b1 h k
  have E2 : vaB u = false ∨ (vaB u = true ∧ vaB v = false) ∨ (vaB u = true ∧ vaB v = true ∧ (vtV u == vtV v) = (u == v)) := by
    cases h : vaB u <;> cases k : vaB v <;> simp
    exact vt_eq u v h k
  clear S0 S1 S2 S3 S4 S5 B0 GA
  rcases E1 with h | ⟨h, k⟩ | ⟨h, k, l⟩ <;> rcases E2 with m | ⟨m, n⟩ | ⟨m, n, o⟩
  all_goals
    go_wp2
    go_ret
    exact ⟨rfl, GG⟩

theorem slotApart_own : ownKnob Try.prog.godebug = none := by kernel_rfl
set_option maxRecDepth 100000 in
theorem slotApart_lifted (os : Os) (started : os.Started) (H : Type) (enc : TypeId × Value → H) :
    ReturnsInHanded {} Try.checked os 7 .any (Rows.slotApartSpec.pre6 enc Try.prog Try.f7 Rows.slotApartRow.domain false) (Rows.slotApartSpec.post enc Try.prog Try.f7 false true false false) := by
  refine returnsInHanded_of_change (C := Try.checked) slotApart_own started (by kernel_rfl) Try.func7
    (ChangeSpec.witness6 (enc := enc) (C := Try.checked) false ⟨#[], #[.agg #[.int .i64 0, .int .i64 0], .agg #[.int .i64 0, .int .i64 0], .agg #[.int .u64 0, .int .u64 0]], []⟩ 8 (by kernel_rfl) (by kernel_rfl) (by kernel_rfl) (by kernel_rfl)) ?_
  intro W base args ds gs before hval0 hW hcnd _
  have hval : ∀ (j : Nat) t v, Try.f7.params[j]? = some t → args[j]? = some v → Value.okWide Try.prog W .any base t v := hval0
  have hW' := hW
  obtain ⟨p, q, hA0, hV, rfl, hfz, hnd⟩ := hW
  have hA : DataW.TrodAll enc Try.prog W 0 (fun _ => true) true Try.f7.params.toList args.toList ds p := hA0
  rw [Try.params7] at hA hval
  obtain ⟨v0, vs0, d0, ds0, p0, q0, hargs, rfl, rfl, h0, r0⟩ := trodAll_cons hA
  obtain ⟨v1, vs1, d1, ds1, p1, q1, rfl, rfl, rfl, h1, r1⟩ := trodAll_cons r0
  obtain ⟨v2, vs2, d2, ds2, p2, q2, rfl, rfl, rfl, h2, r2⟩ := trodAll_cons r1
  obtain ⟨rfl, rfl, rfl⟩ := trodAll_nil r2
  obtain rfl : args = #[v0, v1, v2] := by cases args; simp_all
  obtain ⟨rfl, rfl⟩ := trodVars_none hV
  obtain ⟨a0, b0, rfl, rfl, rfl, u0, x0⟩ := open_ints2 (hval 0 32 v0 rfl rfl) h0
  obtain ⟨a1, b1, rfl, rfl, rfl, u1, x1⟩ := open_ints2 (hval 1 32 v1 rfl rfl) h1
  obtain ⟨a2, b2, rfl, rfl, rfl, u2, x2⟩ := open_words2 (hval 2 33 v2 rfl rfl) h2
  clear hA0 hval0
  simp only [List.append_nil] at hW'
  refine (slotApart_walk a0 b0 a1 b1 a2 b2 u2 x2 W).mono fun e W' ⟨he, hg⟩ => ?_
  subst he
  exact ⟨_, rfl, post_of_same (pa := []) (pv := []) hW' (fun _ _ _ => (trodAll_cons_mk (shut_bool Try.underlying4 _) trodAll_mk0)) (fun sp _ => (trodAll_cons_mk (shut_ints2 u0 x0) (trodAll_cons_mk (shut_ints2 u1 x1) (trodAll_cons_mk (shut_words2 u2 x2) trodAll_mk0)))) (fun _ _ => rfl) rfl
    (hg.frame _) hg.2.1 (ok_one (by kernel_rfl) rfl (okWide_bool_mk Try.underlying4 _))⟩

theorem slotApart_holds : Rows.SlotApartSaid :=
  OpenClaim.holds_of_wide 7 Try.f7 rfl rfl rfl rfl rfl rfl rfl ⟨rfl, rfl, rfl, rfl, rfl⟩ rfl rfl rfl rfl rfl (by kernel_rfl) Try.func7 (by kernel_rfl)
    (of_decide_eq_true (by kernel_rfl)) (by unfold Func.isWrapper; first | (rw [if_pos (by decide +kernel)]; kernel_rfl) | (rw [if_neg (by decide +kernel)]; exact ⟨rfl, rfl⟩))
    (fun os started H enc _ => slotApart_lifted os started H enc)
#print axioms slotApart_holds
end Go.Proofs.Ytpnacciechcnlaa
