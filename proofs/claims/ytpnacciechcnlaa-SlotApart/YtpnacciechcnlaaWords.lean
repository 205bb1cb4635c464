/-
  The contracts of the inner functions of package slot: the words that a slot's word and a value's word are told by, in any world.
-/
import Derived.Test.YtpnacciechcnlaaRows
import Derived.WalkKit
import Derived.WalkLawsBesides
import Derived.WalkSpells
import Derived.Laws.StructEq
import Derived.OpenShut
import Derived.Deep.RegionWith
import Derived.Deep.QuietTactic
import Derived.BigQuiet
import Derived.LoopN
import Derived.ProofKit
namespace Go.Proofs.Ytpnacciechcnlaa
open Go.RowKit (Grown Hid)
theorem grown_cell {w w' : World} (g : Grown w w') {b o : Nat} (h : b < w.heap.size) : w'.cell? ⟨b, o, none⟩ = w.cell? ⟨b, o, none⟩ := g.1.cell h (fun f => f)
theorem grown_trans {a b c : World} (g : Grown a b) (h : Grown b c) : Grown a c :=
  ⟨World.keptBut_trans g.1 h.1, fun x => (h.2.1 x).trans (g.2.1 x), Nat.le_trans g.2.2 h.2.2⟩
theorem ret_u64 {a b : Int} (h : a = b) : Ending.returned (.int .u64 a) = .returned (.int .u64 b) := by rw [h]
theorem ret_i64 {a b : Int} (h : a = b) : Ending.returned (.int .i64 a) = .returned (.int .i64 b) := by rw [h]
theorem ret_bool {a b : Bool} (h : a = b) : Ending.returned (.bool a) = .returned (.bool b) := by rw [h]

/-- State, generation, dead, value, the word made dead. -/
def stV (x : Int) : Int := x % 4
def gnV (x : Int) : Int := if x / 4 ≤ 1073741823 then x / 4 else 1073741823
def ddB (x : Int) : Bool := x % 2 == 1
def ofV (x : Int) : Int := x / 2
def klV (x : Int) : Int := x - x % 2 + 1

theorem mask_3 (x : Int) (h0 : 0 ≤ x) (h1 : x < 18446744073709551616) : bits .and .u64 x 3 = x % 4 := by go_bits2
theorem mask_1 (x : Int) (h0 : 0 ≤ x) (h1 : x < 18446744073709551616) : bits .and .u64 x 1 = x % 2 := by go_bits2

theorem gnV_hi (x : Int) (h : 1073741823 < x / 4) : gnV x = 1073741823 := by unfold gnV; rw [if_neg (by omega)]
theorem gnV_lo (x : Int) (h : x / 4 ≤ 1073741823) : gnV x = x / 4 := by unfold gnV; rw [if_pos h]
theorem agg2 {a b c d : Int} (h : a = b) (k : c = d) : Ending.returned (.agg #[.int .i64 a, .int .i64 c]) = .returned (.agg #[.int .i64 b, .int .i64 d]) := by rw [h, k]
set_option maxRecDepth 100000 in
theorem metaOf_any (x : Int) (w0 w : World) (hS : Grown w0 w) (h0 : 0 ≤ x) (h1 : x < 18446744073709551616) :
    Calls Try.prog 27 #[.int .u64 x] w fun e w' => e = .returned (.agg #[.int .i64 (stV x), .int .i64 (gnV x)]) ∧ Grown w0 w' := by
  have hm : bits .and .u64 x 3 = x % 4 := mask_3 x h0 h1
  go_enter Try.func27, Try.ntmps27
  go_wp2
  · exact bodyPost_ret (v := .agg #[.int .i64 (x % 4), .int .i64 1073741823]) (by simp [results, Try.results27, go_sem]) rfl ⟨agg2 rfl (gnV_hi x ‹_›).symm, hS.alloc _ _⟩
  · exact bodyPost_ret (v := .agg #[.int .i64 (x % 4), .int .i64 (x / 4)]) (by simp [results, Try.results27, go_sem]) rfl ⟨agg2 rfl (gnV_lo x ‹_›).symm, hS.alloc _ _⟩
theorem ddB_eq (x : Int) : (x % 2 != 0) = ddB x := by
  unfold ddB; rw [Bool.eq_iff_iff]; simp; omega
set_option maxRecDepth 100000 in
theorem heldBy_any (x : Int) (w0 w : World) (hS : Grown w0 w) (h0 : 0 ≤ x) (h1 : x < 18446744073709551616) :
    Calls Try.prog 28 #[.int .u64 x] w fun e w' => e = .returned (.agg #[.bool (ddB x), .int .u64 (ofV x)]) ∧ Grown w0 w' := by
  have hm : bits .and .u64 x 1 = x % 2 := mask_1 x h0 h1
  have HD : Hid _ := ddB_eq x
  go_enter Try.func28, Try.ntmps28
  go_wp2
  exact bodyPost_ret (v := .agg #[.bool (x % 2 != 0), .int .u64 (x / 2)]) (by simp [results, Try.results28, go_sem]) rfl ⟨by rw [HD.out]; rfl, hS.alloc _ _⟩
/-- The word of a state and a generation, and of a value, dead or not, whatever they are. -/
def wdV (s g : Int) : Int := bits .or .u64 (IntKind.u64.wrap (IntKind.u64.wrap g * 4)) (IntKind.u64.wrap s)
def hwV (d : Bool) (v : Int) : Int := if d then bits .or .u64 (IntKind.u64.wrap (v * 2)) 1 else IntKind.u64.wrap (v * 2)
set_option maxRecDepth 100000 in
theorem mword_any (s g : Int) (w0 w : World) (hS : Grown w0 w) :
    Calls Try.prog 26 #[.agg #[.int .i64 s, .int .i64 g]] w fun e w' => e = .returned (.int .u64 (wdV s g)) ∧ Grown w0 w' := by
  go_enter Try.func26, Try.ntmps26
  go_wp2
  go_ret
  exact ⟨rfl, hS.alloc _ _⟩
set_option maxRecDepth 100000 in
theorem hword_any (d : Bool) (v : Int) (w0 w : World) (hS : Grown w0 w) :
    Calls Try.prog 29 #[.agg #[.bool d, .int .u64 v]] w fun e w' => e = .returned (.int .u64 (hwV d v)) ∧ Grown w0 w' := by
  cases d
  · go_enter Try.func29, Try.ntmps29
    go_wp2
    go_ret
    exact ⟨rfl, hS.alloc _ _⟩
  · go_enter Try.func29, Try.ntmps29
    go_wp2
    go_ret
    exact ⟨rfl, hS.alloc _ _⟩
set_option maxRecDepth 100000 in
theorem state_any (x : Int) (w0 w : World) (hS : Grown w0 w) (h0 : 0 ≤ x) (h1 : x < 18446744073709551616) :
    Calls Try.prog 12 #[.int .u64 x] w fun e w' => e = .returned (.int .i64 (stV x)) ∧ Grown w0 w' := by
  have hi : ∀ a b w, (Instr.field 37 (.agg #[a, b]) 0).run Try.prog w = .ok a w := fun _ _ _ => by kernel_rfl
  go_enter Try.func12, Try.ntmps12
  go_wp2_with fail
  refine (metaOf_any x w0 _ hS h0 h1).mono ?_
  rintro e w1 ⟨rfl, G1⟩
  go_wp2
  go_ret
  exact ⟨rfl, G1⟩
set_option maxRecDepth 100000 in
theorem gen_any (x : Int) (w0 w : World) (hS : Grown w0 w) (h0 : 0 ≤ x) (h1 : x < 18446744073709551616) :
    Calls Try.prog 13 #[.int .u64 x] w fun e w' => e = .returned (.int .i64 (gnV x)) ∧ Grown w0 w' := by
  have hi : ∀ a b w, (Instr.field 37 (.agg #[a, b]) 1).run Try.prog w = .ok b w := fun _ _ _ => by kernel_rfl
  go_enter Try.func13, Try.ntmps13
  go_wp2_with fail
  refine (metaOf_any x w0 _ hS h0 h1).mono ?_
  rintro e w1 ⟨rfl, G1⟩
  go_wp2
  go_ret
  exact ⟨rfl, G1⟩
set_option maxRecDepth 100000 in
theorem dead_any (x : Int) (w0 w : World) (hS : Grown w0 w) (h0 : 0 ≤ x) (h1 : x < 18446744073709551616) :
    Calls Try.prog 16 #[.int .u64 x] w fun e w' => e = .returned (.bool (ddB x)) ∧ Grown w0 w' := by
  have hi : ∀ a b w, (Instr.field 41 (.agg #[a, b]) 0).run Try.prog w = .ok a w := fun _ _ _ => by kernel_rfl
  go_enter Try.func16, Try.ntmps16
  go_wp2_with fail
  refine (heldBy_any x w0 _ hS h0 h1).mono ?_
  rintro e w1 ⟨rfl, G1⟩
  go_wp2
  go_ret
  exact ⟨rfl, G1⟩
set_option maxRecDepth 100000 in
theorem of_any (x : Int) (w0 w : World) (hS : Grown w0 w) (h0 : 0 ≤ x) (h1 : x < 18446744073709551616) :
    Calls Try.prog 20 #[.int .u64 x] w fun e w' => e = .returned (.int .u64 (ofV x)) ∧ Grown w0 w' := by
  have hi : ∀ a b w, (Instr.field 41 (.agg #[a, b]) 1).run Try.prog w = .ok b w := fun _ _ _ => by kernel_rfl
  go_enter Try.func20, Try.ntmps20
  go_wp2_with fail
  refine (heldBy_any x w0 _ hS h0 h1).mono ?_
  rintro e w1 ⟨rfl, G1⟩
  go_wp2
  go_ret
  exact ⟨rfl, G1⟩
theorem or_add (x y : Int) (k : Nat) (hx : 0 ≤ x) (hy : 0 ≤ y) (hk : y < 2 ^ k) (hs : x * 2 ^ k + y < 18446744073709551616) : bits .or .u64 (IntKind.u64.wrap (x * 2 ^ k)) y = x * 2 ^ k + y := by
  obtain ⟨X, rfl⟩ := Int.eq_ofNat_of_zero_le hx
  obtain ⟨Y, rfl⟩ := Int.eq_ofNat_of_zero_le hy
  have e : ((X : Int) * 2 ^ k) = ((X * 2 ^ k : Nat) : Int) := by simp
  rw [e] at hs ⊢
  have hk' : Y < 2 ^ k := by exact_mod_cast hk
  generalize hZ : X * 2 ^ k = Z at *
  rw [IntKind.wrap_u64, Int.emod_eq_of_lt (by omega) (by omega), u64_or_nat _ _ (by omega) (by omega)]
  have := Nat.shiftLeft_add_eq_or_of_lt hk' X
  rw [Nat.shiftLeft_eq, hZ] at this
  rw [← this]; simp
theorem hwV_dead (v : Int) (h0 : 0 ≤ v) (h1 : v < 9223372036854775808) : hwV true v = v * 2 + 1 := by
  have := or_add v 1 1 h0 (by omega) (by omega) (by omega)
  rw [show ((2 : Int) ^ 1) = 2 from rfl] at this
  unfold hwV; simpa using this
set_option maxRecDepth 100000 in
theorem kill_any (x : Int) (w0 w : World) (hS : Grown w0 w) (h0 : 0 ≤ x) (h1 : x < 18446744073709551616) :
    Calls Try.prog 18 #[.int .u64 x] w fun e w' => e = .returned (.int .u64 (klV x)) ∧ Grown w0 w' := by
  have hv : Hid _ := hwV_dead (ofV x) (by unfold ofV; omega) (by unfold ofV; omega)
  have hx : Hid (ofV x * 2 + 1 = klV x) := by unfold Hid ofV klV; omega
  go_enter Try.func18, Try.ntmps18
  go_wp2_with fail
  refine (heldBy_any x w _ (Grown.refl w) h0 h1).mono ?_
  rintro e w1 ⟨rfl, G1⟩
  go_wp2_with fail
  refine (hword_any true (ofV x) w0 _ (grown_trans hS (G1.alloc _ _))).mono ?_
  rintro e w2 ⟨rfl, G2⟩
  go_wp2
  go_ret
  exact ⟨ret_u64 (hv.out.trans hx.out), G2⟩
/-! the document's own answers -/
set_option maxRecDepth 100000 in
theorem rstate_any (x : Int) (w0 w : World) (hS : Grown w0 w) (h0 : 0 ≤ x) (h1 : x < 18446744073709551616) :
    Calls Try.prog 14 #[.int .u64 x] w fun e w' => e = .returned (.int .i64 (stV x)) ∧ Grown w0 w' := by
  go_enter Try.func14, Try.ntmps14
  go_wp2
  go_ret
  exact ⟨rfl, hS⟩
set_option maxRecDepth 100000 in
theorem rgen_any (x : Int) (w0 w : World) (hS : Grown w0 w) (h0 : 0 ≤ x) (h1 : x < 18446744073709551616) :
    Calls Try.prog 15 #[.int .u64 x] w fun e w' => e = .returned (.int .i64 (gnV x)) ∧ Grown w0 w' := by
  by_cases h : 1073741823 < x / 4
  · have hv : Hid _ := (gnV_hi x h).symm
    go_enter Try.func15, Try.ntmps15
    go_wp2
    go_ret
    exact ⟨ret_i64 hv.out, hS⟩
  · have h' : x / 4 ≤ 1073741823 := by omega
    have hv : Hid _ := (gnV_lo x h').symm
    clear h
    go_enter Try.func15, Try.ntmps15
    go_wp2
    go_ret
    exact ⟨ret_i64 hv.out, hS⟩
set_option maxRecDepth 100000 in
theorem rdead_any (x : Int) (w0 w : World) (hS : Grown w0 w) (h0 : 0 ≤ x) (h1 : x < 18446744073709551616) :
    Calls Try.prog 17 #[.int .u64 x] w fun e w' => e = .returned (.bool (ddB x)) ∧ Grown w0 w' := by
  go_enter Try.func17, Try.ntmps17
  go_wp2
  go_ret
  exact ⟨rfl, hS⟩
set_option maxRecDepth 100000 in
theorem rof_any (x : Int) (w0 w : World) (hS : Grown w0 w) (h0 : 0 ≤ x) (h1 : x < 18446744073709551616) :
    Calls Try.prog 21 #[.int .u64 x] w fun e w' => e = .returned (.int .u64 (ofV x)) ∧ Grown w0 w' := by
  go_enter Try.func21, Try.ntmps21
  go_wp2
  go_ret
  exact ⟨rfl, hS⟩
theorem klV_of (x : Int) (h1 : x < 18446744073709551616) : (ddB x = true → klV x = x) ∧ (ddB x = false → klV x = x + 1 ∧ x + 1 < 18446744073709551616) := by
  unfold ddB klV; simp only [beq_iff_eq, beq_eq_false_iff_ne]; omega
set_option maxRecDepth 100000 in
theorem rkill_any (x : Int) (w0 w : World) (hS : Grown w0 w) (h0 : 0 ≤ x) (h1 : x < 18446744073709551616) :
    Calls Try.prog 19 #[.int .u64 x] w fun e w' => e = .returned (.int .u64 (klV x)) ∧ Grown w0 w' := by
  have hk := klV_of x h1
  have hr := rdead_any x w0 w hS h0 h1
  cases hb : ddB x
  · have hv : Hid _ := (hk.2 hb).1.symm
    have hl := (hk.2 hb).2
    rw [hb] at hr
    clear hk hb
    go_enter Try.func19, Try.ntmps19
    go_wp2_with fail
    refine hr.mono ?_
    rintro e w1 ⟨rfl, G1⟩
    clear hr
    go_wp2
    go_ret
    exact ⟨ret_u64 hv.out, G1⟩
  · have hv : Hid _ := (hk.1 hb).symm
    rw [hb] at hr
    clear hk hb
    go_enter Try.func19, Try.ntmps19
    go_wp2_with fail
    refine hr.mono ?_
    rintro e w1 ⟨rfl, G1⟩
    clear hr
    go_wp2
    go_ret
    exact ⟨ret_u64 hv.out, G1⟩
/-- Whether a value, or a state and a generation, may be; their words. -/
def vaB (v : Int) : Bool := decide (v < 9223372036854775808)
def meB (s g : Int) : Bool := decide (0 ≤ s ∧ s ≤ 2 ∧ 0 ≤ g ∧ g ≤ 1073741823)
def meV (s g : Int) : Int := 4 * g + s
def afV (g l : Int) : Int := if (if l < 0 then 0 else if 1073741823 < l then 1073741823 else l) ≤ (if g < 0 then 0 else g) then 4 * (if l < 0 then 0 else if 1073741823 < l then 1073741823 else l) + 2 else 4 * (if g < 0 then 0 else g) + 4
theorem hw_bd (v : Int) : 0 ≤ hwV false v ∧ hwV false v < 18446744073709551616 := by
  unfold hwV; simp only [Bool.false_eq_true, if_false, IntKind.wrap_u64]; omega
theorem hw_lo (v : Int) (h0 : 0 ≤ v) (h1 : v < 9223372036854775808) : hwV false v = v * 2 := by
  unfold hwV; simp only [Bool.false_eq_true, if_false, IntKind.wrap_u64]; omega
theorem hw_hi (v : Int) (h0 : 9223372036854775808 ≤ v) (h1 : v < 18446744073709551616) : hwV false v = (v - 9223372036854775808) * 2 := by
  unfold hwV; simp only [Bool.false_eq_true, if_false, IntKind.wrap_u64]; omega
structure PW (B : Nat) (w1 : World) (a b : Value) : Prop where
  p0 : w1.cell? ⟨B, 0, none⟩ = some a
  p1 : w1.cell? ⟨B, 1, none⟩ = some b
  lt : B < w1.heap.size
theorem PW.grown {B : Nat} {w w' : World} {a b : Value} (h : PW B w a b) (g : Grown w w') : PW B w' a b :=
  ⟨(grown_cell g h.lt).trans h.p0, (grown_cell g h.lt).trans h.p1, Nat.lt_of_lt_of_le h.lt g.2.2⟩
theorem PW.new (w : World) (a b : Value) (t : Nat) : PW w.heap.size (w.alloc (.cells #[a, b] t)) a b :=
  ⟨by go_simp, by go_simp, by simp⟩
set_option maxRecDepth 100000 in
set_option maxHeartbeats 400000 in
theorem value_yes (v : Int) (w0 w : World) (hS : Grown w0 w) (h0 : 0 ≤ v) (h1 : v < 9223372036854775808) :
    Calls Try.prog 24 #[.int .u64 v] w fun e w' => e = .returned (.tuple #[.int .u64 (v * 2), .bool true]) ∧ Grown w0 w' := by
  have GA := (Grown.refl w).alloc #[.bool false, .int .u64 v] 41
  have PA := PW.new w (.bool false) (.int .u64 v) 41
  have hv := hw_lo v h0 h1
  have hd : ddB (v * 2) = false := by unfold ddB; rw [beq_eq_false_iff_ne]; omega
  have ho : ofV (v * 2) = v := by unfold ofV; omega
  go_enter Try.func24, Try.ntmps24
  go_wp2_with fail
  generalize w.alloc (.cells #[.bool false, .int .u64 v] 41) = W1 at GA PA ⊢
  refine (hword_any false v W1 _ (Grown.refl W1)).mono ?_
  rintro e w1 ⟨rfl, G1⟩
  have P1 : Hid _ := PA.grown G1
  have GG := grown_trans hS (grown_trans GA G1)
  obtain ⟨p0, p1, plt⟩ := PA.grown G1
  rw [hv]
  clear PA GA G1 hS hv
  go_wp2_with fail
  go_region_with (go_at_call 28; refine (heldBy_any (v * 2) _ _ (Grown.refl _) (by omega) (by omega)).mono ?_; rintro e w2 ⟨rfl, hg2⟩; obtain ⟨q0, q1, _⟩ := P1.out.grown (by exact hg2); rw [hd, ho])
  all_goals go_wp2
  all_goals go_ret2
  all_goals exact ⟨rfl, grown_trans GG ‹_›⟩
set_option maxRecDepth 100000 in
set_option maxHeartbeats 400000 in
theorem value_no (v : Int) (w0 w : World) (hS : Grown w0 w) (h0 : 9223372036854775808 ≤ v) (h1 : v < 18446744073709551616) :
    Calls Try.prog 24 #[.int .u64 v] w fun e w' => e = .returned (.tuple #[.int .u64 0, .bool false]) ∧ Grown w0 w' := by
  have GA := (Grown.refl w).alloc #[.bool false, .int .u64 v] 41
  have PA := PW.new w (.bool false) (.int .u64 v) 41
  have hv := hw_hi v h0 h1
  generalize hx : (v - 9223372036854775808) * 2 = x at hv
  have hd : ddB x = false := by unfold ddB; rw [beq_eq_false_iff_ne]; omega
  have ho : (ofV x == v) = false := by unfold ofV; rw [beq_eq_false_iff_ne]; omega
  have x0 : 0 ≤ x := by omega
  have x1 : x < 18446744073709551616 := by omega
  clear hx h0 h1
  go_enter Try.func24, Try.ntmps24
  go_wp2_with fail
  generalize w.alloc (.cells #[.bool false, .int .u64 v] 41) = W1 at GA PA ⊢
  refine (hword_any false v W1 _ (Grown.refl W1)).mono ?_
  rintro e w1 ⟨rfl, G1⟩
  have P1 : Hid _ := PA.grown G1
  have GG := grown_trans hS (grown_trans GA G1)
  obtain ⟨p0, p1, plt⟩ := PA.grown G1
  rw [hv]
  clear PA GA G1 hS hv
  go_wp2_with fail
  go_region_with (go_at_call 28; refine (heldBy_any x _ _ (Grown.refl _) x0 x1).mono ?_; rintro e w2 ⟨rfl, hg2⟩; obtain ⟨q0, q1, _⟩ := P1.out.grown (by exact hg2); rw [hd])
  all_goals go_wp2
  all_goals go_ret2
  all_goals exact ⟨rfl, grown_trans GG ‹_›⟩
set_option maxRecDepth 100000 in
theorem rvalue_yes (v : Int) (w0 w : World) (hS : Grown w0 w) (h0 : 0 ≤ v) (h1 : v < 9223372036854775808) :
    Calls Try.prog 25 #[.int .u64 v] w fun e w' => e = .returned (.tuple #[.int .u64 (v * 2), .bool true]) ∧ Grown w0 w' := by
  have hm : Hid (2 * v = v * 2) := by unfold Hid; omega
  go_enter Try.func25, Try.ntmps25
  go_wp2
  go_ret2
  exact ⟨by rw [← hm.out]; rfl, hS⟩
set_option maxRecDepth 100000 in
theorem rvalue_no (v : Int) (w0 w : World) (hS : Grown w0 w) (h0 : 9223372036854775808 ≤ v) :
    Calls Try.prog 25 #[.int .u64 v] w fun e w' => e = .returned (.tuple #[.int .u64 0, .bool false]) ∧ Grown w0 w' := by
  go_enter Try.func25, Try.ntmps25
  go_wp2
  go_ret2
  exact ⟨rfl, hS⟩
theorem wd_bd (s g : Int) : 0 ≤ wdV s g ∧ wdV s g < 18446744073709551616 := by
  have := bounds_u64 (wf_bits .or .u64 (IntKind.u64.wrap (IntKind.u64.wrap g * 4)) (IntKind.u64.wrap s))
  unfold wdV; omega
theorem wd_eq (s g : Int) (s0 : 0 ≤ s) (s1 : s ≤ 3) (g0 : 0 ≤ g) (g1 : g ≤ 1073741824) : wdV s g = 4 * g + s := by
  have := or_add g s 2 g0 s0 (by omega) (by omega)
  rw [show ((2 : Int) ^ 2) = 4 from rfl] at this
  unfold wdV
  rw [show IntKind.u64.wrap g = g by rw [IntKind.wrap_u64]; omega, show IntKind.u64.wrap s = s by rw [IntKind.wrap_u64]; omega, this]; omega
theorem meB_true {s g : Int} (h : meB s g = true) : 0 ≤ s ∧ s ≤ 2 ∧ 0 ≤ g ∧ g ≤ 1073741823 := by unfold meB at h; simpa using h
theorem meB_false {s g : Int} (h : meB s g = false) : s < 0 ∨ 2 < s ∨ g < 0 ∨ 1073741823 < g := by unfold meB at h; simp at h; omega
set_option maxRecDepth 100000 in
set_option maxHeartbeats 400000 in
theorem meta_yes (s g : Int) (w0 w : World) (hS : Grown w0 w) (h : meB s g = true) :
    Calls Try.prog 9 #[.int .i64 s, .int .i64 g] w fun e w' => e = .returned (.tuple #[.int .u64 (meV s g), .bool true]) ∧ Grown w0 w' := by
  obtain ⟨s0, s1, g0, g1⟩ := meB_true h
  have GA := (Grown.refl w).alloc #[.int .i64 s, .int .i64 g] 37
  have PA := PW.new w (.int .i64 s) (.int .i64 g) 37
  have hv : wdV s g = meV s g := wd_eq s g (by omega) (by omega) (by omega) (by omega)
  have b0 : 0 ≤ meV s g := by unfold meV; omega
  have b1 : meV s g < 18446744073709551616 := by unfold meV; omega
  have es : stV (meV s g) = s := by unfold stV meV; omega
  have eg : gnV (meV s g) = g := by rw [gnV_lo _ (by unfold meV; omega)]; unfold meV; omega
  have hd : decide (2 < s) = false := decide_eq_false (by omega)
  clear h
  go_enter Try.func9, Try.ntmps9
  go_wp2_with fail
  generalize w.alloc (.cells #[.int .i64 s, .int .i64 g] 37) = W1 at GA PA ⊢
  refine (mword_any s g W1 _ (Grown.refl W1)).mono ?_
  rintro e w1 ⟨rfl, G1⟩
  have P1 : Hid _ := PA.grown G1
  have GG := grown_trans hS (grown_trans GA G1)
  obtain ⟨p0, p1, plt⟩ := PA.grown G1
  rw [hv]
  clear PA GA G1 hS hv
  generalize hx0 : meV s g = x at b0 b1 es eg ⊢
  have hx : Hid _ := hx0
  clear hx0
  go_wp2_with fail
  go_region_with (go_at_call 27; refine (metaOf_any x _ _ (Grown.refl _) b0 b1).mono ?_; rintro e w2 ⟨rfl, hg2⟩; obtain ⟨q0, q1, _⟩ := P1.out.grown (by exact hg2); rw [es, eg])
  all_goals go_wp2
  all_goals go_ret2
  all_goals exact ⟨by rw [hx.out]; rfl, grown_trans GG ‹_›⟩
theorem gn_bd (x : Int) (h : 0 ≤ x) : 0 ≤ gnV x ∧ gnV x ≤ 1073741823 := by unfold gnV; split <;> omega
theorem meta_not (s g x : Int) (x0 : 0 ≤ x) (h : s < 0 ∨ g < 0 ∨ 1073741823 < g) : (stV x == s) = false ∨ (gnV x == g) = false := by
  have := gn_bd x x0
  have h2 : 0 ≤ stV x := by unfold stV; omega
  simp only [beq_eq_false_iff_ne]; omega
set_option maxRecDepth 100000 in
set_option maxHeartbeats 400000 in
theorem meta_no (s g : Int) (w0 w : World) (hS : Grown w0 w) (h : meB s g = false) :
    Calls Try.prog 9 #[.int .i64 s, .int .i64 g] w fun e w' => e = .returned (.tuple #[.int .u64 0, .bool false]) ∧ Grown w0 w' := by
  have h := meB_false h
  have GA := (Grown.refl w).alloc #[.int .i64 s, .int .i64 g] 37
  have PA := PW.new w (.int .i64 s) (.int .i64 g) 37
  obtain ⟨b0, b1⟩ := wd_bd s g
  by_cases hs : 2 < s
  · have hd : decide (2 < s) = true := decide_eq_true hs
    clear h hs
    go_enter Try.func9, Try.ntmps9
    go_wp2_with fail
    generalize w.alloc (.cells #[.int .i64 s, .int .i64 g] 37) = W1 at GA PA ⊢
    refine (mword_any s g W1 _ (Grown.refl W1)).mono ?_
    rintro e w1 ⟨rfl, G1⟩
    have P1 : Hid _ := PA.grown G1
    have GG := grown_trans hS (grown_trans GA G1)
    obtain ⟨p0, p1, plt⟩ := PA.grown G1
    clear PA GA G1 hS
    generalize wdV s g = x at b0 b1 ⊢
    go_wp2_with fail
    go_quiet (fail)
    all_goals go_wp2
    all_goals go_ret2
    all_goals exact ⟨rfl, GG⟩
  · have hs' : s ≤ 2 := by omega
    have h' := meta_not s g (wdV s g) b0 (by omega)
    have hd : decide (2 < s) = false := decide_eq_false hs
    clear h hs
    rcases h' with e0 | e0
    all_goals
      go_enter Try.func9, Try.ntmps9
      go_wp2_with fail
      generalize w.alloc (.cells #[.int .i64 s, .int .i64 g] 37) = W1 at GA PA ⊢
      refine (mword_any s g W1 _ (Grown.refl W1)).mono ?_
      rintro e w1 ⟨rfl, G1⟩
      have P1 : Hid _ := PA.grown G1
      have GG := grown_trans hS (grown_trans GA G1)
      obtain ⟨p0, p1, plt⟩ := PA.grown G1
      clear PA GA G1 hS
      generalize wdV s g = x at b0 b1 e0 ⊢
      go_wp2_with fail
      go_region_with (go_at_call 27; refine (metaOf_any x _ _ (Grown.refl _) b0 b1).mono ?_; rintro e w2 ⟨rfl, hg2⟩; obtain ⟨q0, q1, _⟩ := P1.out.grown (by exact hg2))
      all_goals go_wp2
      all_goals go_ret2
      all_goals exact ⟨rfl, grown_trans GG ‹_›⟩
set_option maxRecDepth 100000 in
theorem rmeta_yes (s g : Int) (w0 w : World) (hS : Grown w0 w) (h : meB s g = true) :
    Calls Try.prog 10 #[.int .i64 s, .int .i64 g] w fun e w' => e = .returned (.tuple #[.int .u64 (meV s g), .bool true]) ∧ Grown w0 w' := by
  obtain ⟨s0, s1, g0, g1⟩ := meB_true h
  clear h
  go_enter Try.func10, Try.ntmps10
  go_wp2
  go_ret2
  exact ⟨rfl, hS⟩
set_option maxRecDepth 100000 in
theorem rmeta_no (s g : Int) (w0 w : World) (hS : Grown w0 w) (h : meB s g = false) :
    Calls Try.prog 10 #[.int .i64 s, .int .i64 g] w fun e w' => e = .returned (.tuple #[.int .u64 0, .bool false]) ∧ Grown w0 w' := by
  have h := meB_false h
  go_enter Try.func10, Try.ntmps10
  go_wp2
  all_goals first | omega | (go_ret2; exact ⟨rfl, hS⟩)
theorem af_out (g l G L : Int) (hG : G = if g < 0 then 0 else g) (hL : L = if l < 0 then 0 else if 1073741823 < l then 1073741823 else l) (h : L ≤ G) : afV g l = 4 * L + 2 := by
  unfold afV; rw [← hG, ← hL, if_pos h]
theorem af_in (g l G L : Int) (hG : G = if g < 0 then 0 else g) (hL : L = if l < 0 then 0 else if 1073741823 < l then 1073741823 else l) (h : G < L) : afV g l = 4 * G + 4 := by
  unfold afV; rw [← hG, ← hL, if_neg (by omega)]
set_option maxRecDepth 100000 in
set_option maxHeartbeats 400000 in
theorem after_any (g l : Int) (w0 w : World) (hS : Grown w0 w) :
    Calls Try.prog 22 #[.int .i64 g, .int .i64 l] w fun e w' => e = .returned (.int .u64 (afV g l)) ∧ Grown w0 w' := by
  have key : ∀ s G, 0 ≤ s → s ≤ 2 → 0 ≤ G → G ≤ 1073741824 → wdV s G = 4 * G + s := fun s G a b c d => wd_eq s G a (by omega) c (by omega)
  by_cases hg : g < 0
  · by_cases hl : l ≤ 0
    · have hv : Hid (wdV 2 0 = afV g l) := (key 2 0 (by omega) (by omega) (by omega) (by omega)).trans (af_out g l 0 0 (by rw [if_pos hg]) (by split <;> (try split) <;> omega) (by omega)).symm
      clear key
      by_cases hl' : l < 0
      · clear hl
        go_enter Try.func22, Try.ntmps22
        go_wp2_with fail
        refine (mword_any _ _ w0 _ hS).mono ?_
        rintro e w1 ⟨rfl, G1⟩
        go_wp2
        go_ret
        exact ⟨ret_u64 hv.out, G1⟩
      · obtain rfl : l = 0 := by omega
        clear hl hl'
        go_enter Try.func22, Try.ntmps22
        go_wp2_with fail
        refine (mword_any _ _ w0 _ hS).mono ?_
        rintro e w1 ⟨rfl, G1⟩
        go_wp2
        go_ret
        exact ⟨ret_u64 hv.out, G1⟩
    · have hl1 : 0 < l := by omega
      have hv : Hid (wdV 0 1 = afV g l) := (key 0 1 (by omega) (by omega) (by omega) (by omega)).trans (af_in g l 0 (if 1073741823 < l then 1073741823 else l) (by rw [if_pos hg]) (by rw [if_neg (show ¬ l < 0 by omega)]) (by split <;> omega)).symm
      clear key hl
      by_cases hm : 1073741823 < l
      all_goals
        go_enter Try.func22, Try.ntmps22
        go_wp2_with fail
        refine (mword_any _ _ w0 _ hS).mono ?_
        rintro e w1 ⟨rfl, G1⟩
        go_wp2
        go_ret
        exact ⟨ret_u64 hv.out, G1⟩
  · have hg1 : 0 ≤ g := by omega
    by_cases hl : l < 0
    · have hv : Hid (wdV 2 0 = afV g l) := (key 2 0 (by omega) (by omega) (by omega) (by omega)).trans (af_out g l g 0 (by rw [if_neg hg]) (by rw [if_pos hl]) (by omega)).symm
      clear key hg
      go_enter Try.func22, Try.ntmps22
      go_wp2_with fail
      refine (mword_any _ _ w0 _ hS).mono ?_
      rintro e w1 ⟨rfl, G1⟩
      go_wp2
      go_ret
      exact ⟨ret_u64 hv.out, G1⟩
    · have hl1 : 0 ≤ l := by omega
      by_cases hm : 1073741823 < l
      · by_cases hc : 1073741823 ≤ g
        · have hv : Hid (wdV 2 1073741823 = afV g l) := (key 2 1073741823 (by omega) (by omega) (by omega) (by omega)).trans (af_out g l g 1073741823 (by rw [if_neg hg]) (by rw [if_neg hl, if_pos hm]) (by omega)).symm
          clear key hg hl
          go_enter Try.func22, Try.ntmps22
          go_wp2_with fail
          refine (mword_any _ _ w0 _ hS).mono ?_
          rintro e w1 ⟨rfl, G1⟩
          go_wp2
          go_ret
          exact ⟨ret_u64 hv.out, G1⟩
        · have hc' : g < 1073741823 := by omega
          have hv : Hid (wdV 0 (g + 1) = afV g l) := (key 0 (g + 1) (by omega) (by omega) (by omega) (by omega)).trans ((show 4 * (g + 1) + 0 = 4 * g + 4 by omega).trans (af_in g l g 1073741823 (by rw [if_neg hg]) (by rw [if_neg hl, if_pos hm]) (by omega)).symm)
          clear key hg hl hc
          go_enter Try.func22, Try.ntmps22
          go_wp2_with fail
          refine (mword_any _ _ w0 _ hS).mono ?_
          rintro e w1 ⟨rfl, G1⟩
          go_wp2
          go_ret
          exact ⟨ret_u64 hv.out, G1⟩
      · have hm' : l ≤ 1073741823 := by omega
        by_cases hc : l ≤ g
        · have hv : Hid (wdV 2 l = afV g l) := (key 2 l (by omega) (by omega) (by omega) (by omega)).trans (af_out g l g l (by rw [if_neg hg]) (by rw [if_neg hl, if_neg hm]) (by omega)).symm
          clear key hg hl hm
          go_enter Try.func22, Try.ntmps22
          go_wp2_with fail
          refine (mword_any _ _ w0 _ hS).mono ?_
          rintro e w1 ⟨rfl, G1⟩
          go_wp2
          go_ret
          exact ⟨ret_u64 hv.out, G1⟩
        · have hc' : g < l := by omega
          have hv : Hid (wdV 0 (g + 1) = afV g l) := (key 0 (g + 1) (by omega) (by omega) (by omega) (by omega)).trans ((show 4 * (g + 1) + 0 = 4 * g + 4 by omega).trans (af_in g l g l (by rw [if_neg hg]) (by rw [if_neg hl, if_neg hm]) (by omega)).symm)
          clear key hg hl hc hm
          go_enter Try.func22, Try.ntmps22
          go_wp2_with fail
          refine (mword_any _ _ w0 _ hS).mono ?_
          rintro e w1 ⟨rfl, G1⟩
          go_wp2
          go_ret
          exact ⟨ret_u64 hv.out, G1⟩
end Go.Proofs.Ytpnacciechcnlaa
