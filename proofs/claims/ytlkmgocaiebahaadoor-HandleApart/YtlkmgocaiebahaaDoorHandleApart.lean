/-
  For every two lists of parts: the words packed of them, where there are both, are the same just if the parts are; the law HandleApart answers true, and the arguments read as they did.
  Conditions: the package variable of handle that the code reads starts as the program's text lays it (the card ties it to that text).
-/
import Derived.Test.YtlkmgocaiebahaaDoorLaid
import Derived.Laws.IdiomArrays
namespace Go.Proofs.YtlkmgocaiebahaaDoor
open Go.ChangeShapes Go.WideShapes Go.ChangeAt Go.RowKit

theorem trod_array2 {H : Type} {enc : TypeId × Value → H} {P : Program} {w : World} {base : Nat} {spare : Nat → Bool} {held : Bool} {t e : TypeId} {fuel : Nat} {c0 c1 : Value} {x : DataW H × List MemPlace} (ht : P.underlying t = some (.array 2 e)) (hce : P.cellsOf e = 1)
    (h : DataW.trod enc P w base spare held fuel t [c0, c1] = some x) :
    ∃ y0 y1 n, x = (.agg [y0.1, y1.1], y0.2 ++ y1.2) ∧ DataW.trod enc P w base spare held n e [c0] = some y0 ∧ DataW.trod enc P w base spare held n e [c1] = some y1 := by
  cases fuel with
  | zero => simp [DataW.trod] at h
  | succ n =>
    unfold DataW.trod at h
    rw [ht] at h
    have r3 : List.range 2 = [0, 1] := rfl
    simp [r3, hce] at h
    obtain ⟨_, h⟩ := h
    cases h0 : DataW.trod enc P w base spare held n e [c0] with
    | none => simp [h0] at h
    | some y0 =>
      cases h1 : DataW.trod enc P w base spare held n e [c1] with
      | none => simp [h0, h1] at h
      | some y1 =>
        simp [h0, h1] at h
        exact ⟨y0, y1, n, h.symm, h0, h1⟩
theorem c30 : Tryd.prog.cellsOf 30 = 2 := by kernel_rfl
theorem c31 : Tryd.prog.cellsOf 31 = 2 := by kernel_rfl
theorem c3 : Tryd.prog.cellsOf 3 = 1 := by kernel_rfl
theorem c4 : Tryd.prog.cellsOf 4 = 1 := by kernel_rfl
theorem agg_of {W : World} {base t : Nat} {v : Value} {n e : Nat} (ht : Tryd.prog.underlying t = some (.array n e)) (hc : Tryd.prog.cellsOf t = 2) (h : Value.okWide Tryd.prog W .any base t v) : ∃ c0 c1, v = .agg #[c0, c1] := by
  obtain ⟨cs, rfl, hsz, _⟩ : ∃ cs, v = .agg cs ∧ cs.size = Tryd.prog.cellsOf t ∧ Row.okWide Tryd.prog W .any base t cs := by
    simpa [Value.okWide, ht] using h
  rw [hc] at hsz
  obtain ⟨l⟩ := cs
  match l, hsz with
  | [a, b], _ => exact ⟨a, b, rfl⟩
theorem open_ints2 {H : Type} {enc : TypeId × Value → H} {W : World} {b0 base : Nat} {sp : Nat → Bool} {held : Bool} {v : Value} {d : DataW H} {p : List MemPlace} (h : Value.okWide Tryd.prog W .any b0 30 v) (hd : DataW.Trod enc Tryd.prog W base sp held 30 v d p) :
    ∃ x y, v = .agg #[.int .i64 x, .int .i64 y] ∧ d = .agg [.lit (.int .i64 x), .lit (.int .i64 y)] ∧ p = [] ∧ (Lit.int .i64 x).wf = true ∧ (Lit.int .i64 y).wf = true := by
  obtain ⟨c0, c1, rfl⟩ := agg_of Tryd.underlying30 c30 h
  obtain ⟨fuel, hf⟩ := hd
  obtain ⟨y0, y1, n, hx, g0, g1⟩ := trod_array2 (c0 := c0) (c1 := c1) Tryd.underlying30 c3 (by simpa [Value.cells] using hf)
  obtain ⟨x, e0, rfl, wx⟩ := DataW.trod_int Tryd.underlying3 g0
  obtain ⟨y, e1, rfl, wy⟩ := DataW.trod_int Tryd.underlying3 g1
  simp at e0 e1
  subst e0 e1
  simp only [Prod.mk.injEq] at hx
  exact ⟨x, y, rfl, hx.1, by simpa using hx.2, wx, wy⟩
theorem shut_ints2 {H : Type} {enc : TypeId × Value → H} {W : World} {base : Nat} {sp : Nat → Bool} {held : Bool} {x y : Int} (wx : (Lit.int .i64 x).wf = true) (wy : (Lit.int .i64 y).wf = true) :
    DataW.Trod enc Tryd.prog W base sp held 30 (.agg #[.int .i64 x, .int .i64 y]) (.agg [.lit (.int .i64 x), .lit (.int .i64 y)]) [] := by
  refine ⟨2, ?_⟩
  have r3 : List.range 2 = [0, 1] := rfl
  simp [DataW.trod, Value.cells, Tryd.underlying30, Tryd.underlying3, c30, c3, r3, wx, wy]
theorem open_bools2 {H : Type} {enc : TypeId × Value → H} {W : World} {b0 base : Nat} {sp : Nat → Bool} {held : Bool} {v : Value} {d : DataW H} {p : List MemPlace} (h : Value.okWide Tryd.prog W .any b0 31 v) (hd : DataW.Trod enc Tryd.prog W base sp held 31 v d p) :
    ∃ x y, v = .agg #[.bool x, .bool y] ∧ d = .agg [.lit (.bool x), .lit (.bool y)] ∧ p = [] := by
  obtain ⟨c0, c1, rfl⟩ := agg_of Tryd.underlying31 c31 h
  obtain ⟨fuel, hf⟩ := hd
  obtain ⟨y0, y1, n, hx, g0, g1⟩ := trod_array2 (c0 := c0) (c1 := c1) Tryd.underlying31 c4 (by simpa [Value.cells] using hf)
  obtain ⟨x, e0, rfl⟩ := DataW.trod_bool Tryd.underlying4 g0
  obtain ⟨y, e1, rfl⟩ := DataW.trod_bool Tryd.underlying4 g1
  simp at e0 e1
  subst e0 e1
  simp only [Prod.mk.injEq] at hx
  exact ⟨x, y, rfl, hx.1, by simpa using hx.2⟩
theorem shut_bools2 {H : Type} {enc : TypeId × Value → H} {W : World} {base : Nat} {sp : Nat → Bool} {held : Bool} {x y : Bool} :
    DataW.Trod enc Tryd.prog W base sp held 31 (.agg #[.bool x, .bool y]) (.agg [.lit (.bool x), .lit (.bool y)]) [] := by
  refine ⟨2, ?_⟩
  have r3 : List.range 2 = [0, 1] := rfl
  simp [DataW.trod, Value.cells, Tryd.underlying31, Tryd.underlying4, c31, c4, r3]
theorem part3 (xs : Array Value) (n : Nat) (v : Value) (h : xs[n]? = some v) (w : World) : Sem.run Tryd.prog (part 3 xs n) w = .ok v w := by
  have ha : ∀ w, Sem.run Tryd.prog (isAgg 3) w = .ok false w := fun _ => by kernel_rfl
  unfold part
  simp [Sem.run_bind, ha, h]
theorem eq_pair (a0 a1 b0 b1 : Int) (w : World) :
    Sem.run Tryd.prog (Op.equalIn 10000 30 (.agg #[.int .i64 a0, .int .i64 a1]) (.agg #[.int .i64 b0, .int .i64 b1])) w = .ok (a0 == b0 && a1 == b1) w := by
  have hs : ∀ w, Sem.run Tryd.prog (sizeOf 3) w = .ok 1 w := fun _ => by kernel_rfl
  have he := fun (a b : Int) w => run_equalIn_int (P := Tryd.prog) w 9998 3 .i64 .i64 a b Tryd.underlying3
  have ha0 : ∀ w, Sem.run Tryd.prog (part 3 #[Value.int IntKind.i64 a0, Value.int IntKind.i64 a1] 0) w = .ok (.int .i64 a0) w := fun w => part3 _ 0 _ rfl w
  have ha1 : ∀ w, Sem.run Tryd.prog (part 3 #[Value.int IntKind.i64 a0, Value.int IntKind.i64 a1] 1) w = .ok (.int .i64 a1) w := fun w => part3 _ 1 _ rfl w
  have hb0 : ∀ w, Sem.run Tryd.prog (part 3 #[Value.int IntKind.i64 b0, Value.int IntKind.i64 b1] 0) w = .ok (.int .i64 b0) w := fun w => part3 _ 0 _ rfl w
  have hb1 : ∀ w, Sem.run Tryd.prog (part 3 #[Value.int IntKind.i64 b0, Value.int IntKind.i64 b1] 1) w = .ok (.int .i64 b1) w := fun w => part3 _ 1 _ rfl w
  rw [show (10000 : Nat) = 9999 + 1 from rfl, Op.equalIn]
  simp only [Sem.run_bind, run_underlying Tryd.underlying30, Result.andThen_ok, hs, Nat.mul_one]
  cases e0 : (a0 == b0) <;> cases e1 : (a1 == b1) <;>
    simp [Std.Legacy.Range.forIn_eq_forIn_range', Std.Legacy.Range.size, List.range', Sem.run_bind, ha0, ha1, hb0, hb1, he, e0, e1]
structure BW (B : Nat) (w1 : World) (a0 a1 b0 b1 : Int) (m0 m1 : Bool) : Prop where
  x0 : w1.cell? ⟨B, 0, none⟩ = some (.int .i64 a0)
  x1 : w1.cell? ⟨B, 1, none⟩ = some (.int .i64 a1)
  y0 : w1.cell? ⟨B + 1, 0, none⟩ = some (.int .i64 b0)
  y1 : w1.cell? ⟨B + 1, 1, none⟩ = some (.int .i64 b1)
  z0 : w1.cell? ⟨B + 1 + 1, 0, none⟩ = some (.bool m0)
  z1 : w1.cell? ⟨B + 1 + 1, 1, none⟩ = some (.bool m1)
  lt : B + 2 < w1.heap.size
theorem BW.grown {B : Nat} {w w' : World} {a0 a1 b0 b1 : Int} {m0 m1 : Bool} (h : BW B w a0 a1 b0 b1 m0 m1) (g : Grown w w') : BW B w' a0 a1 b0 b1 m0 m1 := by
  have h1 : B < w.heap.size := by have := h.lt; omega
  have h2 : B + 1 < w.heap.size := by have := h.lt; omega
  have h3 : B + 1 + 1 < w.heap.size := by have := h.lt; omega
  exact ⟨(grown_cell g h1).trans h.x0, (grown_cell g h1).trans h.x1, (grown_cell g h2).trans h.y0, (grown_cell g h2).trans h.y1, (grown_cell g h3).trans h.z0, (grown_cell g h3).trans h.z1, Nat.lt_of_lt_of_le h.lt g.2.2⟩
theorem BW.new (w : World) (a0 a1 b0 b1 : Int) (m0 m1 : Bool) : BW w.heap.size (((w.alloc (.cells #[.int .i64 a0, .int .i64 a1] 30)).alloc (.cells #[.int .i64 b0, .int .i64 b1] 30)).alloc (.cells #[.bool m0, .bool m1] 31)) a0 a1 b0 b1 m0 m1 :=
  ⟨by go_simp, by go_simp, by go_simp, by go_simp, by go_simp, by go_simp, by simp⟩
theorem apart_eq (a0 a1 b0 b1 : Int) (m0 m1 : Bool) (h : fitB a0 a1 = true) (k : fitB b0 b1 = true) :
    (packV a0 a1 m0 == packV b0 b1 m1) = ((a0 == b0 && a1 == b1) && (m0 == m1)) := by
  obtain ⟨i0, i1, g0, g1⟩ := fitB_true h
  obtain ⟨j0, j1, f0, f1⟩ := fitB_true k
  unfold packV
  rw [Bool.eq_iff_iff]
  simp only [Bool.and_eq_true, beq_iff_eq]
  cases m0 <;> cases m1 <;> simp <;> omega
set_option maxRecDepth 100000 in
set_option maxHeartbeats 1000000 in
theorem apart_nn (a0 a1 b0 b1 : Int) (m0 m1 : Bool) (w : World) (hT : Tab w) (hf1 : fitB a0 a1 = false) (wi1 : -9223372036854775808 ≤ a0 ∧ a0 ≤ 9223372036854775807) (wg1 : -9223372036854775808 ≤ a1 ∧ a1 ≤ 9223372036854775807) (hf2 : fitB b0 b1 = false) (wi2 : -9223372036854775808 ≤ b0 ∧ b0 ≤ 9223372036854775807) (wg2 : -9223372036854775808 ≤ b1 ∧ b1 ≤ 9223372036854775807) :
    Calls Tryd.prog 7 #[.agg #[.int .i64 a0, .int .i64 a1], .agg #[.int .i64 b0, .int .i64 b1], .agg #[.bool m0, .bool m1]] w fun e w' => e = .returned (.bool true) ∧ Grown w w' := by
  have heq := eq_pair
  have GA := (((Grown.refl w).alloc #[.int .i64 a0, .int .i64 a1] 30).alloc #[.int .i64 b0, .int .i64 b1] 30).alloc #[.bool m0, .bool m1] 31
  have B0 := BW.new w a0 a1 b0 b1 m0 m1
  have HF1 : Hid _ := hf1
  clear hf1
  have HI1 : Hid _ := wi1
  have HG1 : Hid _ := wg1
  clear wi1 wg1
  have HF2 : Hid _ := hf2
  clear hf2
  have HI2 : Hid _ := wi2
  have HG2 : Hid _ := wg2
  clear wi2 wg2
  go_enter Tryd.func7, Tryd.ntmps7
  go_wp2_with fail
  generalize ((w.alloc (.cells #[.int .i64 a0, .int .i64 a1] 30)).alloc (.cells #[.int .i64 b0, .int .i64 b1] 30)).alloc (.cells #[.bool m0, .bool m1] 31) = W0 at GA B0 ⊢
  have S0 : St W0 W0 := ⟨hT.grown GA, Grown.refl _⟩
  refine (pack_no a0 a1 m0 W0 _ S0 HF1.out HI1.out HG1.out).mono ?_
  rintro e w1 ⟨rfl, S1⟩
  obtain ⟨x0, x1, y0, y1, z0, z1, _⟩ := B0.grown S1.2
  go_wp2_with fail
  refine (pack_no b0 b1 m1 W0 _ S1 HF2.out HI2.out HG2.out).mono ?_
  rintro e w2 ⟨rfl, S2⟩
  clear x0 x1 y0 y1 z0 z1
  go_wp2_with fail
  refine (alive_any W0 _ S2).mono ?_
  rintro e w3 ⟨rfl, S3⟩
  obtain ⟨x0, x1, y0, y1, z0, z1, _⟩ := B0.grown S3.2
  go_wp2
  go_ret
  exact ⟨rfl, grown_trans GA S3.2⟩
set_option maxRecDepth 100000 in
set_option maxHeartbeats 1000000 in
theorem apart_ny (a0 a1 b0 b1 : Int) (m0 m1 : Bool) (w : World) (hT : Tab w) (hf1 : fitB a0 a1 = false) (wi1 : -9223372036854775808 ≤ a0 ∧ a0 ≤ 9223372036854775807) (wg1 : -9223372036854775808 ≤ a1 ∧ a1 ≤ 9223372036854775807) (hf2 : fitB b0 b1 = true) :
    Calls Tryd.prog 7 #[.agg #[.int .i64 a0, .int .i64 a1], .agg #[.int .i64 b0, .int .i64 b1], .agg #[.bool m0, .bool m1]] w fun e w' => e = .returned (.bool true) ∧ Grown w w' := by
  have heq := eq_pair
  have GA := (((Grown.refl w).alloc #[.int .i64 a0, .int .i64 a1] 30).alloc #[.int .i64 b0, .int .i64 b1] 30).alloc #[.bool m0, .bool m1] 31
  have B0 := BW.new w a0 a1 b0 b1 m0 m1
  have HF1 : Hid _ := hf1
  clear hf1
  have HI1 : Hid _ := wi1
  have HG1 : Hid _ := wg1
  clear wi1 wg1
  have HF2 : Hid _ := hf2
  clear hf2
  go_enter Tryd.func7, Tryd.ntmps7
  go_wp2_with fail
  generalize ((w.alloc (.cells #[.int .i64 a0, .int .i64 a1] 30)).alloc (.cells #[.int .i64 b0, .int .i64 b1] 30)).alloc (.cells #[.bool m0, .bool m1] 31) = W0 at GA B0 ⊢
  have S0 : St W0 W0 := ⟨hT.grown GA, Grown.refl _⟩
  refine (pack_no a0 a1 m0 W0 _ S0 HF1.out HI1.out HG1.out).mono ?_
  rintro e w1 ⟨rfl, S1⟩
  obtain ⟨x0, x1, y0, y1, z0, z1, _⟩ := B0.grown S1.2
  go_wp2_with fail
  refine (pack_yes b0 b1 m1 W0 _ S1 HF2.out).mono ?_
  rintro e w2 ⟨rfl, S2⟩
  clear x0 x1 y0 y1 z0 z1
  go_wp2_with fail
  refine (alive_any W0 _ S2).mono ?_
  rintro e w3 ⟨rfl, S3⟩
  obtain ⟨x0, x1, y0, y1, z0, z1, _⟩ := B0.grown S3.2
  go_wp2
  go_ret
  exact ⟨rfl, grown_trans GA S3.2⟩
set_option maxRecDepth 100000 in
set_option maxHeartbeats 1000000 in
theorem apart_yn (a0 a1 b0 b1 : Int) (m0 m1 : Bool) (w : World) (hT : Tab w) (hf1 : fitB a0 a1 = true) (hf2 : fitB b0 b1 = false) (wi2 : -9223372036854775808 ≤ b0 ∧ b0 ≤ 9223372036854775807) (wg2 : -9223372036854775808 ≤ b1 ∧ b1 ≤ 9223372036854775807) :
    Calls Tryd.prog 7 #[.agg #[.int .i64 a0, .int .i64 a1], .agg #[.int .i64 b0, .int .i64 b1], .agg #[.bool m0, .bool m1]] w fun e w' => e = .returned (.bool true) ∧ Grown w w' := by
  have heq := eq_pair
  have GA := (((Grown.refl w).alloc #[.int .i64 a0, .int .i64 a1] 30).alloc #[.int .i64 b0, .int .i64 b1] 30).alloc #[.bool m0, .bool m1] 31
  have B0 := BW.new w a0 a1 b0 b1 m0 m1
  have HF1 : Hid _ := hf1
  clear hf1
  have HF2 : Hid _ := hf2
  clear hf2
  have HI2 : Hid _ := wi2
  have HG2 : Hid _ := wg2
  clear wi2 wg2
  go_enter Tryd.func7, Tryd.ntmps7
  go_wp2_with fail
  generalize ((w.alloc (.cells #[.int .i64 a0, .int .i64 a1] 30)).alloc (.cells #[.int .i64 b0, .int .i64 b1] 30)).alloc (.cells #[.bool m0, .bool m1] 31) = W0 at GA B0 ⊢
  have S0 : St W0 W0 := ⟨hT.grown GA, Grown.refl _⟩
  refine (pack_yes a0 a1 m0 W0 _ S0 HF1.out).mono ?_
  rintro e w1 ⟨rfl, S1⟩
  obtain ⟨x0, x1, y0, y1, z0, z1, _⟩ := B0.grown S1.2
  go_wp2_with fail
  refine (pack_no b0 b1 m1 W0 _ S1 HF2.out HI2.out HG2.out).mono ?_
  rintro e w2 ⟨rfl, S2⟩
  clear x0 x1 y0 y1 z0 z1
  go_wp2_with fail
  refine (alive_any W0 _ S2).mono ?_
  rintro e w3 ⟨rfl, S3⟩
  obtain ⟨x0, x1, y0, y1, z0, z1, _⟩ := B0.grown S3.2
  go_wp2
  go_ret
  exact ⟨rfl, grown_trans GA S3.2⟩
set_option maxRecDepth 100000 in
set_option maxHeartbeats 1000000 in
theorem apart_yes_same (a0 a1 b0 b1 : Int) (m0 m1 : Bool) (w : World) (hT : Tab w) (hf1 : fitB a0 a1 = true) (hf2 : fitB b0 b1 = true) (hs : (a0 == b0 && a1 == b1) = true) :
    Calls Tryd.prog 7 #[.agg #[.int .i64 a0, .int .i64 a1], .agg #[.int .i64 b0, .int .i64 b1], .agg #[.bool m0, .bool m1]] w fun e w' => e = .returned (.bool true) ∧ Grown w w' := by
  have heq := eq_pair
  have GA := (((Grown.refl w).alloc #[.int .i64 a0, .int .i64 a1] 30).alloc #[.int .i64 b0, .int .i64 b1] 30).alloc #[.bool m0, .bool m1] 31
  have B0 := BW.new w a0 a1 b0 b1 m0 m1
  have hp := apart_eq a0 a1 b0 b1 m0 m1 hf1 hf2
  rw [hs] at hp
  simp only [Bool.true_and] at hp
  have HF1 : Hid _ := hf1
  clear hf1
  have HF2 : Hid _ := hf2
  clear hf2
  go_enter Tryd.func7, Tryd.ntmps7
  go_wp2_with fail
  generalize ((w.alloc (.cells #[.int .i64 a0, .int .i64 a1] 30)).alloc (.cells #[.int .i64 b0, .int .i64 b1] 30)).alloc (.cells #[.bool m0, .bool m1] 31) = W0 at GA B0 ⊢
  have S0 : St W0 W0 := ⟨hT.grown GA, Grown.refl _⟩
  refine (pack_yes a0 a1 m0 W0 _ S0 HF1.out).mono ?_
  rintro e w1 ⟨rfl, S1⟩
  obtain ⟨x0, x1, y0, y1, z0, z1, _⟩ := B0.grown S1.2
  go_wp2_with fail
  refine (pack_yes b0 b1 m1 W0 _ S1 HF2.out).mono ?_
  rintro e w2 ⟨rfl, S2⟩
  clear x0 x1 y0 y1 z0 z1
  go_wp2_with fail
  refine (alive_any W0 _ S2).mono ?_
  rintro e w3 ⟨rfl, S3⟩
  obtain ⟨x0, x1, y0, y1, z0, z1, _⟩ := B0.grown S3.2
  go_wp2
  go_ret
  exact ⟨rfl, grown_trans GA S3.2⟩
set_option maxRecDepth 100000 in
set_option maxHeartbeats 1000000 in
theorem apart_yes_other (a0 a1 b0 b1 : Int) (m0 m1 : Bool) (w : World) (hT : Tab w) (hf1 : fitB a0 a1 = true) (hf2 : fitB b0 b1 = true) (hs : (a0 == b0 && a1 == b1) = false) :
    Calls Tryd.prog 7 #[.agg #[.int .i64 a0, .int .i64 a1], .agg #[.int .i64 b0, .int .i64 b1], .agg #[.bool m0, .bool m1]] w fun e w' => e = .returned (.bool true) ∧ Grown w w' := by
  have heq := eq_pair
  have GA := (((Grown.refl w).alloc #[.int .i64 a0, .int .i64 a1] 30).alloc #[.int .i64 b0, .int .i64 b1] 30).alloc #[.bool m0, .bool m1] 31
  have B0 := BW.new w a0 a1 b0 b1 m0 m1
  have hp := apart_eq a0 a1 b0 b1 m0 m1 hf1 hf2
  rw [hs] at hp
  simp only [Bool.false_and] at hp
  have HF1 : Hid _ := hf1
  clear hf1
  have HF2 : Hid _ := hf2
  clear hf2
  go_enter Tryd.func7, Tryd.ntmps7
  go_wp2_with fail
  generalize ((w.alloc (.cells #[.int .i64 a0, .int .i64 a1] 30)).alloc (.cells #[.int .i64 b0, .int .i64 b1] 30)).alloc (.cells #[.bool m0, .bool m1] 31) = W0 at GA B0 ⊢
  have S0 : St W0 W0 := ⟨hT.grown GA, Grown.refl _⟩
  refine (pack_yes a0 a1 m0 W0 _ S0 HF1.out).mono ?_
  rintro e w1 ⟨rfl, S1⟩
  obtain ⟨x0, x1, y0, y1, z0, z1, _⟩ := B0.grown S1.2
  go_wp2_with fail
  refine (pack_yes b0 b1 m1 W0 _ S1 HF2.out).mono ?_
  rintro e w2 ⟨rfl, S2⟩
  clear x0 x1 y0 y1 z0 z1
  go_wp2_with fail
  refine (alive_any W0 _ S2).mono ?_
  rintro e w3 ⟨rfl, S3⟩
  obtain ⟨x0, x1, y0, y1, z0, z1, _⟩ := B0.grown S3.2
  go_wp2
  go_ret
  exact ⟨rfl, grown_trans GA S3.2⟩
theorem handleApart_walk (a0 a1 b0 b1 : Int) (m0 m1 : Bool) (u0 : (Lit.int .i64 a0).wf = true) (u1 : (Lit.int .i64 a1).wf = true) (v0 : (Lit.int .i64 b0).wf = true) (v1 : (Lit.int .i64 b1).wf = true) (w : World) (hT : Tab w) :
    Calls Tryd.prog 7 #[.agg #[.int .i64 a0, .int .i64 a1], .agg #[.int .i64 b0, .int .i64 b1], .agg #[.bool m0, .bool m1]] w fun e w' => e = .returned (.bool true) ∧ Grown w w' := by
  cases h1 : fitB a0 a1 <;> cases h2 : fitB b0 b1
  · exact apart_nn a0 a1 b0 b1 m0 m1 w hT h1 (bounds_i64 u0) (bounds_i64 u1) h2 (bounds_i64 v0) (bounds_i64 v1)
  · exact apart_ny a0 a1 b0 b1 m0 m1 w hT h1 (bounds_i64 u0) (bounds_i64 u1) h2
  · exact apart_yn a0 a1 b0 b1 m0 m1 w hT h1 h2 (bounds_i64 v0) (bounds_i64 v1)
  · cases hs : (a0 == b0 && a1 == b1)
    · exact apart_yes_other a0 a1 b0 b1 m0 m1 w hT h1 h2 hs
    · exact apart_yes_same a0 a1 b0 b1 m0 m1 w hT h1 h2 hs

set_option maxRecDepth 100000 in
theorem handleApart_lifted (os : Os) (started : os.Started) (H : Type) (enc : TypeId × Value → H) :
    ReturnsInHanded {} Tryd.checked os 7 .any (fun w args => (Rows.handleApartSpec.pre enc Tryd.prog Tryd.f7 [] false w args ∧ laidMetH Tryd.prog laid1 w) ∧ sizedMet enc Tryd.prog Tryd.f7 (OpenSpec.ofChange Rows.handleApartSpec) false w args)
      (Rows.handleApartSpec.post enc Tryd.prog Tryd.f7 false true false false) := by
  refine returnsInHanded_of_change_and (C := Tryd.checked) (X := fun w _ => laidMetH Tryd.prog laid1 w) (fun _ _ _ hh h => h.of_heap hh) own started (by kernel_rfl) Tryd.func7
    (ChangeSpec.witness_shaped (enc := enc) (C := Tryd.checked) (os := os) (X := fun w _ => laidMetH Tryd.prog laid1 w) false (World.doorLaid Tryd.prog 400 os) #[.agg #[.int .i64 0, .int .i64 0], .agg #[.int .i64 0, .int .i64 0], .agg #[.bool false, .bool false]] 8 rfl (World.shaped_of_RefB (by kernel_rfl) (by kernel_rfl)) (by kernel_rfl) (by kernel_rfl) (by kernel_rfl) (door_met os _)) ?_
  intro W base args ds gs before hval0 hW _ _ hL _
  have hval : ∀ (j : Nat) t v, Tryd.f7.params[j]? = some t → args[j]? = some v → Value.okWide Tryd.prog W .any base t v := hval0
  have hW' := hW
  obtain ⟨p, q, hA0, hV, rfl, hfz, hnd⟩ := hW
  have hA : DataW.TrodAll enc Tryd.prog W 0 (fun _ => true) true Tryd.f7.params.toList args.toList ds p := hA0
  rw [Tryd.params7] at hA hval
  obtain ⟨v0, vs0, d0, ds0, p0, q0, hargs, rfl, rfl, h0, r0⟩ := trodAll_cons hA
  obtain ⟨v1, vs1, d1, ds1, p1, q1, rfl, rfl, rfl, h1, r1⟩ := trodAll_cons r0
  obtain ⟨v2, vs2, d2, ds2, p2, q2, rfl, rfl, rfl, h2, r2⟩ := trodAll_cons r1
  obtain ⟨rfl, rfl, rfl⟩ := trodAll_nil r2
  obtain rfl : args = #[v0, v1, v2] := by cases args; simp_all
  obtain ⟨rfl, rfl⟩ := trodVars_none hV
  obtain ⟨a0, a1, rfl, rfl, rfl, u0, u1⟩ := open_ints2 (hval 0 30 v0 rfl rfl) h0
  obtain ⟨b0, b1, rfl, rfl, rfl, s0, s1⟩ := open_ints2 (hval 1 30 v1 rfl rfl) h1
  obtain ⟨m0, m1, rfl, rfl, rfl⟩ := open_bools2 (hval 2 31 v2 rfl rfl) h2
  clear hA0 hval0
  simp only [List.append_nil] at hW'
  refine (handleApart_walk a0 a1 b0 b1 m0 m1 u0 u1 s0 s1 W (tab_of_laid hL)).mono fun e W' ⟨he, hg⟩ => ?_
  subst he
  exact ⟨_, rfl, post_of_same (pa := []) (pv := []) hW' (fun _ _ _ => (trodAll_cons_mk (shut_bool Tryd.underlying4 _) trodAll_mk0)) (fun sp _ => (trodAll_cons_mk (shut_ints2 u0 u1) (trodAll_cons_mk (shut_ints2 s0 s1) (trodAll_cons_mk shut_bools2 trodAll_mk0)))) (fun _ _ => rfl) rfl
    (hg.frame _) hg.2.1 (ok_one (by kernel_rfl) rfl (okWide_bool_mk Tryd.underlying4 _))⟩

theorem handleApart_over : Rows.HandleApartSaid :=
  OpenClaim.holds_of_wide 7 Tryd.f7 rfl rfl rfl rfl rfl rfl rfl ⟨rfl, rfl, rfl, rfl, rfl⟩ rfl rfl rfl rfl rfl (by kernel_rfl) Tryd.func7 (by kernel_rfl)
    (of_decide_eq_true (by kernel_rfl)) (by unfold Func.isWrapper; first | (rw [if_pos (by decide +kernel)]; kernel_rfl) | (rw [if_neg (by decide +kernel)]; exact ⟨rfl, rfl⟩))
    (fun os started H enc _ => handleApart_lifted os started H enc)

theorem handleApart_holds : Rows.HandleApartCardSaid :=
  Claim7.holds_tied_plain_at .later [] [.data] true (true, "b36f92fb2381185dfda4eae340e506bb6ca2c37e8e84eb18718242d8dcd49757") false
    handleApart_over (fun _ h => by cases h) (by kernel_rfl) (fun _ h => by cases h) handleApart_row_tie rfl ⟨rfl, rfl⟩ (by kernel_rfl) rfl
    (fun f fn hf hfn => by
      obtain rfl : f = 7 := Option.some.inj ((show Tryd.prog.funcNamed "stepstone/stepstonelaw01.HandleApart" = some 7 by kernel_rfl).symm.trans hf) |>.symm
      obtain rfl : fn = Tryd.f7 := (Option.some.inj (Tryd.func7.symm.trans hfn)).symm
      exact ⟨by kernel_rfl, fun j t ht => by
          rw [Tryd.params7] at ht
          rcases j with _ | j
          · have : t = 30 := by simpa using ht.symm
            subst this; exact (show Tryd.prog.wantsStandIn 30 = false by kernel_rfl)
          rcases j with _ | j
          · have : t = 30 := by simpa using ht.symm
            subst this; exact (show Tryd.prog.wantsStandIn 30 = false by kernel_rfl)
          rcases j with _ | j
          · have : t = 31 := by simpa using ht.symm
            subst this; exact (show Tryd.prog.wantsStandIn 31 = false by kernel_rfl)
          simp at ht⟩)
    (by kernel_rfl)
#print axioms handleApart_holds
end Go.Proofs.YtlkmgocaiebahaaDoor
