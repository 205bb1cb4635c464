/-
  For every configuration and two pairs of numbers: two fields, or two reservations, stand in one cell just if they are the same; no field stands where a reservation does, nor the clock; the law PlanApart answers true, and the arguments read as they did.
  Conditions: the package variable of handle that the code reads starts as the program's text lays it (the card ties it to that text).
-/
import Derived.Test.YtgbgaphmoemokaaDoorPAlive
import Derived.Test.YtgbgaphmoemokaaDoorPWhere
import Derived.Test.YtgbgaphmoemokaaDoorHLaid
import Derived.Test.YtgbgaphmoemokaaDoorPArgs
import Derived.ProofKit
import Derived.SizedLaws
import Derived.Carry
namespace Go.Proofs.YtgbgaphmoemokaaDoor
open Go.ChangeShapes Go.WideShapes Go.ChangeAt Go.RowKit
open Go.Deep

theorem rs_two (c : Cfg) (a b : Int) : rsV c a b = -1 ∨ ∃ x, rsV c a b = x ∧ 1 ≤ x ∧ x ≤ 100 ∧ whV c x = ⟨2, a, b⟩ := by
  by_cases h : inR c a b
  · right
    obtain ⟨h1, h2, h3⟩ := res_wh h
    have := ts_bd (riB_true.1 h.1)
    exact ⟨_, if_pos h, h2, by omega, h1⟩
  · left; exact if_neg h
theorem cl_two (c : Cfg) (a b : Int) : clV' c a b = -1 ∨ ∃ x, clV' c a b = x ∧ 1 ≤ x ∧ x ≤ 900 ∧ whV c x = ⟨3, a, b⟩ := by
  by_cases h : inF c a b
  · right
    obtain ⟨h1, h2, h3⟩ := fld_wh h
    have := ts_bd (riB_true.1 h.1)
    have := ln_bd c
    exact ⟨_, if_pos h, by omega, by omega, h1⟩
  · left; exact if_neg h
theorem cell_at {c : Cfg} {a b : Int} (w : World) : Calls Tryd.prog 15 #[.agg #[.int .i64 c.t, .int .i64 c.s, .int .i64 c.c, .int .i64 c.h, .int .i64 c.k, .int .i64 c.e, .int .i64 c.l], .int .i64 a, .int .i64 b] w fun e w' => e = .returned (.int .i64 (clV' c a b)) ∧ Kept [] w w' := cell_any c a b w
theorem reserved_at {c : Cfg} {a b : Int} (w : World) : Calls Tryd.prog 14 #[.agg #[.int .i64 c.t, .int .i64 c.s, .int .i64 c.c, .int .i64 c.h, .int .i64 c.k, .int .i64 c.e, .int .i64 c.l], .int .i64 a, .int .i64 b] w fun e w' => e = .returned (.int .i64 (rsV c a b)) ∧ Kept [] w w' := reserved_any c a b w
theorem flat_pair : (flat Tryd.prog 2 35) = some [.int .i64, .int .i64] := by kernel_rfl
theorem open_pair {H : Type} {enc : TypeId × Value → H} {w : World} {r : Reach} {b0 base : Nat} {spare : Nat → Bool} {held : Bool} {v : Value} {d : DataW H} {p : List MemPlace} (hv : Value.okWide Tryd.prog w r b0 35 v) (h : DataW.Trod enc Tryd.prog w base spare held 35 v d p) : ∃ a b, v = .agg #[.int .i64 a, .int .i64 b] := by
  obtain ⟨cs, rfl, hF⟩ := flat_agg (Or.inr ⟨_, _, Tryd.underlying35⟩) flat_pair hv h
  obtain ⟨a, r, e1, _, hF⟩ := F2_int hF
  obtain ⟨b, r, rfl, _, hF⟩ := F2_int hF
  obtain rfl := F2_nil hF
  exact ⟨a, b, by rw [show cs = cs.toList.toArray by simp, e1]⟩
theorem eq_pair (a0 a1 b0 b1 : Int) (w : World) :
    Sem.run Tryd.prog (Op.equalIn 10000 35 (.agg #[.int .i64 a0, .int .i64 a1]) (.agg #[.int .i64 b0, .int .i64 b1])) w = .ok (a0 == b0 && a1 == b1) w := by
  have hs : ∀ w, Sem.run Tryd.prog (sizeOf 3) w = .ok 1 w := fun _ => by kernel_rfl
  have he := fun (a b : Int) w => run_equalIn_int (P := Tryd.prog) w 9998 3 .i64 .i64 a b Tryd.underlying3
  have ha0 : ∀ w, Sem.run Tryd.prog (part 3 #[Value.int IntKind.i64 a0, Value.int IntKind.i64 a1] 0) w = .ok (.int .i64 a0) w := fun w => part_int _ 0 _ rfl w
  have ha1 : ∀ w, Sem.run Tryd.prog (part 3 #[Value.int IntKind.i64 a0, Value.int IntKind.i64 a1] 1) w = .ok (.int .i64 a1) w := fun w => part_int _ 1 _ rfl w
  have hb0 : ∀ w, Sem.run Tryd.prog (part 3 #[Value.int IntKind.i64 b0, Value.int IntKind.i64 b1] 0) w = .ok (.int .i64 b0) w := fun w => part_int _ 0 _ rfl w
  have hb1 : ∀ w, Sem.run Tryd.prog (part 3 #[Value.int IntKind.i64 b0, Value.int IntKind.i64 b1] 1) w = .ok (.int .i64 b1) w := fun w => part_int _ 1 _ rfl w
  rw [show (10000 : Nat) = 9999 + 1 from rfl, Op.equalIn]
  simp only [Sem.run_bind, run_underlying Tryd.underlying35, Result.andThen_ok, hs, Nat.mul_one]
  cases e0 : (a0 == b0) <;> cases e1 : (a1 == b1) <;>
    simp [Std.Legacy.Range.forIn_eq_forIn_range', Std.Legacy.Range.size, List.range', Sem.run_bind, ha0, ha1, hb0, hb1, he, e0, e1]
/-- Where two fields, or two reservations, stand. -/
theorem apart (c : Cfg) (a0 a1 b0 b1 x y p q : Int) (hx : clV' c a0 a1 = x) (hy : clV' c b0 b1 = y) (hp : rsV c a0 a1 = p) (hq : rsV c b0 b1 = q) :
    (x = -1 ∨ 1 ≤ x) ∧ (y = -1 ∨ 1 ≤ y) ∧ (p = -1 ∨ 1 ≤ p) ∧ (q = -1 ∨ 1 ≤ q) ∧ (1 ≤ x → ¬ x = q) ∧ (1 ≤ x → 1 ≤ y → (x == y) = (a0 == b0 && a1 == b1)) ∧ (1 ≤ p → 1 ≤ q → (p == q) = (a0 == b0 && a1 == b1)) := by
  have X : x = -1 ∨ (1 ≤ x ∧ whV c x = ⟨3, a0, a1⟩) := by
    rcases cl_two c a0 a1 with h | ⟨z, h, h0, _, h1⟩
    · left; omega
    · right; rw [← hx, h]; exact ⟨h0, h1⟩
  have Y : y = -1 ∨ (1 ≤ y ∧ whV c y = ⟨3, b0, b1⟩) := by
    rcases cl_two c b0 b1 with h | ⟨z, h, h0, _, h1⟩
    · left; omega
    · right; rw [← hy, h]; exact ⟨h0, h1⟩
  have P : p = -1 ∨ (1 ≤ p ∧ whV c p = ⟨2, a0, a1⟩) := by
    rcases rs_two c a0 a1 with h | ⟨z, h, h0, _, h1⟩
    · left; omega
    · right; rw [← hp, h]; exact ⟨h0, h1⟩
  have Q : q = -1 ∨ (1 ≤ q ∧ whV c q = ⟨2, b0, b1⟩) := by
    rcases rs_two c b0 b1 with h | ⟨z, h, h0, _, h1⟩
    · left; omega
    · right; rw [← hq, h]; exact ⟨h0, h1⟩
  refine ⟨X.imp id (·.1), Y.imp id (·.1), P.imp id (·.1), Q.imp id (·.1), ?_, ?_, ?_⟩
  · rintro h0 rfl
    rcases X with X | X
    · omega
    · rcases Q with Q | Q
      · omega
      · have := X.2.symm.trans Q.2; simp at this
  · intro h0 h1
    rcases X with X | X
    · omega
    rcases Y with Y | Y
    · omega
    rw [Bool.eq_iff_iff]; simp only [Bool.and_eq_true, beq_iff_eq]
    constructor
    · rintro rfl; have := X.2.symm.trans Y.2; simpa using this
    · rintro ⟨rfl, rfl⟩; omega
  · intro h0 h1
    rcases P with P | P
    · omega
    rcases Q with Q | Q
    · omega
    rw [Bool.eq_iff_iff]; simp only [Bool.and_eq_true, beq_iff_eq]
    constructor
    · rintro rfl; have := P.2.symm.trans Q.2; simpa using this
    · rintro ⟨rfl, rfl⟩; omega
set_option maxRecDepth 100000 in
set_option maxHeartbeats 4000000 in
theorem planApart_walk (w : World) (c : Cfg) (_g : c.wf) (a0 a1 b0 b1 : Int) (hT : Tab w) : Calls Tryd.prog 6 #[c.val, .agg #[.int .i64 a0, .int .i64 a1], .agg #[.int .i64 b0, .int .i64 b1]] w fun e w' => e = .returned (.bool true) ∧ Kept [] w w' := by
  simp only [Cfg.val]
  have heq := eq_pair
  obtain ⟨x, hx⟩ : ∃ x, clV' c a0 a1 = x := ⟨_, rfl⟩
  obtain ⟨y, hy⟩ : ∃ y, clV' c b0 b1 = y := ⟨_, rfl⟩
  obtain ⟨p, hp⟩ : ∃ p, rsV c a0 a1 = p := ⟨_, rfl⟩
  obtain ⟨q, hq⟩ : ∃ q, rsV c b0 b1 = q := ⟨_, rfl⟩
  have HD : Hid _ := apart c a0 a1 b0 b1 x y p q hx hy hp hq
  have HX : Hid _ := hx
  have HY : Hid _ := hy
  have HP : Hid _ := hp
  have HQ : Hid _ := hq
  clear hx hy hp hq
  have Z : CB (((w.alloc (.cells #[.int .i64 c.t, .int .i64 c.s, .int .i64 c.c, .int .i64 c.h, .int .i64 c.k, .int .i64 c.e, .int .i64 c.l] 23)).alloc (.cells #[.int .i64 a0, .int .i64 a1] 35)).alloc (.cells #[.int .i64 b0, .int .i64 b1] 35)) w.heap.size c := (CB.new w c).kept (((Kept.refl [] _).alloc _).alloc _) (by simp)
  have A : (((w.alloc (.cells #[.int .i64 c.t, .int .i64 c.s, .int .i64 c.c, .int .i64 c.h, .int .i64 c.k, .int .i64 c.e, .int .i64 c.l] 23)).alloc (.cells #[.int .i64 a0, .int .i64 a1] 35)).alloc (.cells #[.int .i64 b0, .int .i64 b1] 35)).heap[w.heap.size + 1]? = some (.cells #[.int .i64 a0, .int .i64 a1] 35 (0, 0)) := Kept.blk ((Kept.refl [] _).alloc _) (PB_new _ _ _) (by simp)
  have B : (((w.alloc (.cells #[.int .i64 c.t, .int .i64 c.s, .int .i64 c.c, .int .i64 c.h, .int .i64 c.k, .int .i64 c.e, .int .i64 c.l] 23)).alloc (.cells #[.int .i64 a0, .int .i64 a1] 35)).alloc (.cells #[.int .i64 b0, .int .i64 b1] 35)).heap[w.heap.size + 1 + 1]? = some (.cells #[.int .i64 b0, .int .i64 b1] 35 (0, 0)) := by
    have := PB_new (w.alloc (.cells #[.int .i64 c.t, .int .i64 c.s, .int .i64 c.c, .int .i64 c.h, .int .i64 c.k, .int .i64 c.e, .int .i64 c.l] 23)) (.cells #[.int .i64 a0, .int .i64 a1] 35) (.cells #[.int .i64 b0, .int .i64 b1] 35)
    rwa [nblk_alloc] at this
  have K0 : Kept [] w (((w.alloc (.cells #[.int .i64 c.t, .int .i64 c.s, .int .i64 c.c, .int .i64 c.h, .int .i64 c.k, .int .i64 c.e, .int .i64 c.l] 23)).alloc (.cells #[.int .i64 a0, .int .i64 a1] 35)).alloc (.cells #[.int .i64 b0, .int .i64 b1] 35)) := (((Kept.refl _ _).alloc _).alloc _).alloc _
  have HT0 : Hid _ := hT.kept K0
  clear hT
  go_enter Tryd.func6, Tryd.ntmps6
  go_upto_region 1 with (fail)
  refine gen_world (fun W => CB W w.heap.size c ∧ W.heap[w.heap.size + 1]? = some (.cells #[.int .i64 a0, .int .i64 a1] 35 (0, 0)) ∧ W.heap[w.heap.size + 1 + 1]? = some (.cells #[.int .i64 b0, .int .i64 b1] 35 (0, 0)) ∧ Kept [] w W ∧ Tab W) ⟨Z, A, B, K0, HT0.out⟩ ?_
  clear Z A B K0 HT0
  rintro W ⟨Z, A, B, K0, HT⟩
  have HT : Hid _ := HT
  have q0 : ∀ u : KW W, u.val.cell? ⟨w.heap.size, 0, none⟩ = some (.int .i64 c.t) := KW.cell (cell_of_blk Z (i := 0) rfl)
  have q1 : ∀ u : KW W, u.val.cell? ⟨w.heap.size, 1, none⟩ = some (.int .i64 c.s) := KW.cell (cell_of_blk Z (i := 1) rfl)
  have q2 : ∀ u : KW W, u.val.cell? ⟨w.heap.size, 2, none⟩ = some (.int .i64 c.c) := KW.cell (cell_of_blk Z (i := 2) rfl)
  have q3 : ∀ u : KW W, u.val.cell? ⟨w.heap.size, 3, none⟩ = some (.int .i64 c.h) := KW.cell (cell_of_blk Z (i := 3) rfl)
  have q4 : ∀ u : KW W, u.val.cell? ⟨w.heap.size, 4, none⟩ = some (.int .i64 c.k) := KW.cell (cell_of_blk Z (i := 4) rfl)
  have q5 : ∀ u : KW W, u.val.cell? ⟨w.heap.size, 5, none⟩ = some (.int .i64 c.e) := KW.cell (cell_of_blk Z (i := 5) rfl)
  have q6 : ∀ u : KW W, u.val.cell? ⟨w.heap.size, 6, none⟩ = some (.int .i64 c.l) := KW.cell (cell_of_blk Z (i := 6) rfl)
  have r0 : ∀ u : KW W, u.val.cell? ⟨w.heap.size + 1, 0, none⟩ = some (.int .i64 a0) := KW.cell (cell_of_blk A (i := 0) rfl)
  have r1 : ∀ u : KW W, u.val.cell? ⟨w.heap.size + 1, 1, none⟩ = some (.int .i64 a1) := KW.cell (cell_of_blk A (i := 1) rfl)
  have s0 : ∀ u : KW W, u.val.cell? ⟨w.heap.size + 1 + 1, 0, none⟩ = some (.int .i64 b0) := KW.cell (cell_of_blk B (i := 0) rfl)
  have s1 : ∀ u : KW W, u.val.cell? ⟨w.heap.size + 1 + 1, 1, none⟩ = some (.int .i64 b1) := KW.cell (cell_of_blk B (i := 1) rfl)
  refine wp_region_kept (by kernel_rfl) (by kernel_rfl) ?_
  repeat (first | go_big_quiet_step ((first | (go_at_call 15; exact Calls.kw_of (cell_at _)))) | quiet_step ((first | (go_at_call 15; exact Calls.kw_of (cell_at _)))))
  refine wpQuiet_nil ?_
  intro _ hw'
  obtain ⟨pq, hw''⟩ := hw'
  subst hw''
  rw [HX.out, HY.out]
  have K1 := pq.kept
  generalize pq.val = W1 at K1 ⊢
  clear q0 q1 q2 q3 q4 q5 q6 r0 r1 s0 s1 pq
  have Z1 := Z.kept K1 (by simp)
  have A1 := K1.blk A (by simp)
  have B1 := K1.blk B (by simp)
  have T1 := K0.trans K1
  have G1 : Hid (Tab W1) := Tab.kept HT.out K1
  clear HT Z K0 K1 A B
  go_wp2_with fail
  have q0 : ∀ u : KW W1, u.val.cell? ⟨w.heap.size, 0, none⟩ = some (.int .i64 c.t) := KW.cell (cell_of_blk Z1 (i := 0) rfl)
  have q1 : ∀ u : KW W1, u.val.cell? ⟨w.heap.size, 1, none⟩ = some (.int .i64 c.s) := KW.cell (cell_of_blk Z1 (i := 1) rfl)
  have q2 : ∀ u : KW W1, u.val.cell? ⟨w.heap.size, 2, none⟩ = some (.int .i64 c.c) := KW.cell (cell_of_blk Z1 (i := 2) rfl)
  have q3 : ∀ u : KW W1, u.val.cell? ⟨w.heap.size, 3, none⟩ = some (.int .i64 c.h) := KW.cell (cell_of_blk Z1 (i := 3) rfl)
  have q4 : ∀ u : KW W1, u.val.cell? ⟨w.heap.size, 4, none⟩ = some (.int .i64 c.k) := KW.cell (cell_of_blk Z1 (i := 4) rfl)
  have q5 : ∀ u : KW W1, u.val.cell? ⟨w.heap.size, 5, none⟩ = some (.int .i64 c.e) := KW.cell (cell_of_blk Z1 (i := 5) rfl)
  have q6 : ∀ u : KW W1, u.val.cell? ⟨w.heap.size, 6, none⟩ = some (.int .i64 c.l) := KW.cell (cell_of_blk Z1 (i := 6) rfl)
  have r0 : ∀ u : KW W1, u.val.cell? ⟨w.heap.size + 1, 0, none⟩ = some (.int .i64 a0) := KW.cell (cell_of_blk A1 (i := 0) rfl)
  have r1 : ∀ u : KW W1, u.val.cell? ⟨w.heap.size + 1, 1, none⟩ = some (.int .i64 a1) := KW.cell (cell_of_blk A1 (i := 1) rfl)
  have s0 : ∀ u : KW W1, u.val.cell? ⟨w.heap.size + 1 + 1, 0, none⟩ = some (.int .i64 b0) := KW.cell (cell_of_blk B1 (i := 0) rfl)
  have s1 : ∀ u : KW W1, u.val.cell? ⟨w.heap.size + 1 + 1, 1, none⟩ = some (.int .i64 b1) := KW.cell (cell_of_blk B1 (i := 1) rfl)
  refine wp_region_kept (by kernel_rfl) (by kernel_rfl) ?_
  repeat (first | go_big_quiet_step ((first | (go_at_call 14; exact Calls.kw_of (reserved_at _)))) | quiet_step ((first | (go_at_call 14; exact Calls.kw_of (reserved_at _)))))
  refine wpQuiet_nil ?_
  intro _ hw'
  obtain ⟨pq, hw''⟩ := hw'
  subst hw''
  rw [HP.out, HQ.out]
  have K2 := pq.kept
  generalize pq.val = W2 at K2 ⊢
  clear q0 q1 q2 q3 q4 q5 q6 r0 r1 s0 s1 pq Z1
  have A2 := K2.blk A1 (by simp)
  have B2 := K2.blk B1 (by simp)
  have T2 := T1.trans K2
  have G2 : Hid (Tab W2) := Tab.kept G1.out K2
  clear G1 T1 K2 A1 B1
  clear HX HY HP HQ
  obtain ⟨dx, dy, dp, dq, d1, d2, d3⟩ := HD.out
  clear HD
  have hq0 : (q == 0) = false := by rw [beq_eq_false_iff_ne]; omega
  have E1 : x = -1 ∨ (1 ≤ x ∧ (x == q) = false ∧ y = -1) ∨ (1 ≤ x ∧ (x == q) = false ∧ 1 ≤ y ∧ (x == y) = (a0 == b0 && a1 == b1)) := by
    rcases dx with h | h
    · exact Or.inl h
    · have h2 : (x == q) = false := by rw [beq_eq_false_iff_ne]; exact d1 h
      rcases dy with k | k
      · exact Or.inr (Or.inl ⟨h, h2, k⟩)
      · exact Or.inr (Or.inr ⟨h, h2, k, d2 h k⟩)
  have E2 : p = -1 ∨ (1 ≤ p ∧ q = -1) ∨ (1 ≤ p ∧ 1 ≤ q ∧ (p == q) = (a0 == b0 && a1 == b1)) := by
    rcases dp with h | h
    · exact Or.inl h
    · rcases dq with k | k
      · exact Or.inr (Or.inl ⟨h, k⟩)
      · exact Or.inr (Or.inr ⟨h, k, d3 h k⟩)
  clear dx dy dp dq d1 d2 d3
  rcases E1 with h | ⟨h, k, l⟩ | ⟨h, k, l, m⟩ <;> rcases E2 with o | ⟨o, i⟩ | ⟨o, i, j⟩
  all_goals
    try subst h
    try subst l
    try subst o
    try subst i
    go_wp2_with fail
    refine (alive_any _ (by exact G2.out)).mono ?_
    rintro e W3 ⟨rfl, K3⟩
    have A3 := K3.blk A2 (by simp)
    have B3 := K3.blk B2 (by simp)
    have T3 := T2.trans K3
    have r0 := cell_of_blk A3 (i := 0) rfl
    have r1 := cell_of_blk A3 (i := 1) rfl
    have s0 := cell_of_blk B3 (i := 0) rfl
    have s1 := cell_of_blk B3 (i := 1) rfl
    clear A2 B2 A3 B3 T2 G2 K3
    go_wp2
    go_ret
    exact ⟨rfl, T3⟩

set_option maxRecDepth 100000 in
theorem planApart_lifted (os : Os) (started : os.Started) (H : Type) (enc : TypeId × Value → H) :
    ReturnsInHanded {} Tryd.checked os 6 .any (fun w args => (Rows.planApartSpec.pre enc Tryd.prog Tryd.f6 [] false w args ∧ laidMetH Tryd.prog laid1 w) ∧ sizedMet enc Tryd.prog Tryd.f6 (OpenSpec.ofChange Rows.planApartSpec) false w args)
      (Rows.planApartSpec.post enc Tryd.prog Tryd.f6 false true false false) := by
  refine returnsInHanded_of_change_and (C := Tryd.checked) (X := fun w _ => laidMetH Tryd.prog laid1 w) (fun _ _ _ hh h => h.of_heap hh) own started (by kernel_rfl) Tryd.func6
    (ChangeSpec.witness_shaped (enc := enc) (C := Tryd.checked) (os := os) (X := fun w _ => laidMetH Tryd.prog laid1 w) false (World.doorLaid Tryd.prog 400 os) #[.agg #[.int .i64 0, .int .i64 0, .int .i64 0, .int .i64 0, .int .i64 0, .int .i64 0, .int .i64 0], .agg #[.int .i64 0, .int .i64 0], .agg #[.int .i64 0, .int .i64 0]] 8 rfl (World.shaped_of_RefB (by kernel_rfl) (by kernel_rfl)) (by kernel_rfl) (by kernel_rfl) (by kernel_rfl) (door_met os _)) ?_
  intro W base args ds gs before hval0 hW _ _ hL _
  have hval : ∀ (j : Nat) t v, Tryd.f6.params[j]? = some t → args[j]? = some v → Value.okWide Tryd.prog W .any base t v := hval0
  have hW' := hW
  obtain ⟨p, q, hA0, hV, rfl, _, _⟩ := hW
  have hA : DataW.TrodAll enc Tryd.prog W 0 (fun _ => true) true Tryd.f6.params.toList args.toList ds p := hA0
  rw [Tryd.params6] at hA hval
  clear hA0 hval0
  obtain ⟨v0, vs0, d0, ds0, p0, q0, hargs, rfl, rfl, h0, r0⟩ := trodAll_cons hA
  obtain ⟨v1, vs1, d1, ds1, p1, q1, rfl, rfl, rfl, h1, r1⟩ := trodAll_cons r0
  obtain ⟨v2, vs2, d2, ds2, p2, q2, rfl, rfl, rfl, h2, r2⟩ := trodAll_cons r1
  obtain ⟨rfl, rfl, rfl⟩ := trodAll_nil r2
  obtain rfl : args = #[v0, v1, v2] := by cases args; simp_all
  obtain ⟨rfl, rfl⟩ := trodVars_none hV
  have k0 := h0
  have k1 := h1
  have k2 := h2
  simp only [List.append_nil] at hW'
  have hlt0 : ∀ x ∈ p0, x.block < W.heap.size := fun x hx => hW'.lt x (by simp [hx])
  have hlt1 : ∀ x ∈ p1, x.block < W.heap.size := fun x hx => hW'.lt x (by simp [hx])
  have hlt2 : ∀ x ∈ p2, x.block < W.heap.size := fun x hx => hW'.lt x (by simp [hx])
  obtain ⟨c0, rfl, g0⟩ := open_cfg (hval 0 23 v0 rfl rfl) h0
  obtain ⟨a1, b1, rfl⟩ := open_pair (hval 1 35 v1 rfl rfl) h1
  obtain ⟨a2, b2, rfl⟩ := open_pair (hval 2 35 v2 rfl rfl) h2
  refine (planApart_walk W c0 g0 a1 b1 a2 b2 (tab_of_laid hL)).mono fun e W' ⟨he, hg⟩ => ?_
  subst he
  have hb := hg.below (by simp)
  exact ⟨_, rfl, _, _, _, [], _, [], hW', (trodAll_cons_mk (shut_bool Tryd.underlying4 _) trodAll_mk0), (trodAll_cons_mk (Below.trod laidOut (by kernel_rfl) (of_decide_eq_true (by kernel_rfl)) k0 hb hlt0) (trodAll_cons_mk (Below.trod laidOut (by kernel_rfl) (of_decide_eq_true (by kernel_rfl)) k1 hb hlt1) (trodAll_cons_mk (Below.trod laidOut (by kernel_rfl) (of_decide_eq_true (by kernel_rfl)) k2 hb hlt2) trodAll_mk0))), rfl, hb.frame _, fun h => by cases h⟩

theorem planApart_over : Rows.PlanApartSaid :=
  OpenClaim.holds_of_wide 6 Tryd.f6 rfl rfl rfl rfl rfl rfl rfl ⟨rfl, rfl, rfl, rfl, rfl⟩ rfl rfl rfl rfl rfl (by kernel_rfl) Tryd.func6 (by kernel_rfl)
    (of_decide_eq_true (by kernel_rfl)) (by unfold Func.isWrapper; first | (rw [if_pos (by decide +kernel)]; kernel_rfl) | (rw [if_neg (by decide +kernel)]; exact ⟨rfl, rfl⟩))
    (fun os started H enc _ => planApart_lifted os started H enc)

theorem planApart_holds : Rows.PlanApartCardSaid :=
  Claim7.holds_tied_plain_at .later [] [.data] true (true, "e3d404ef9abe130c130384d299250e9f91cc40664bec313a866518bcdb2f0e4d") false
    planApart_over (fun _ h => by cases h) (by kernel_rfl) (fun _ h => by cases h) planApart_row_tie rfl ⟨rfl, rfl⟩ (by kernel_rfl) rfl
    (fun f fn hf hfn => by
      obtain rfl : f = 6 := Option.some.inj ((show Tryd.prog.funcNamed "stepstone/stepstonelaw04.PlanApart" = some 6 by kernel_rfl).symm.trans hf) |>.symm
      obtain rfl : fn = Tryd.f6 := (Option.some.inj (Tryd.func6.symm.trans hfn)).symm
      exact ⟨by kernel_rfl, fun j t ht => by
          rw [Tryd.params6] at ht
          rcases j with _ | j
          · have : t = 23 := by simpa using ht.symm
            subst this; exact (show Tryd.prog.wantsStandIn 23 = false by kernel_rfl)
          rcases j with _ | j
          · have : t = 35 := by simpa using ht.symm
            subst this; exact (show Tryd.prog.wantsStandIn 35 = false by kernel_rfl)
          rcases j with _ | j
          · have : t = 35 := by simpa using ht.symm
            subst this; exact (show Tryd.prog.wantsStandIn 35 = false by kernel_rfl)
          simp at ht⟩)
    (by kernel_rfl)
#print axioms planApart_holds
end Go.Proofs.YtgbgaphmoemokaaDoor
