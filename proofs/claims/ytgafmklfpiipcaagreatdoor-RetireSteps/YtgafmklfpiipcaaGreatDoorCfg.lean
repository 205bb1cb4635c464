/-
  The plain mathematics of plan: a configuration, which is right, how many cells it has, what each is and where it stands.
-/
import Derived.Test.YtgafmklfpiipcaaGreatDoorMem
namespace Go.Proofs.YtgafmklfpiipcaaGreatDoor
open Go.RowKit (Grown Hid Below)
open Go.Deep

/-- A configuration, as it lies in memory. -/
structure Cfg where
  t : Int
  s : Int
  c : Int
  h : Int
  k : Int
  e : Int
  l : Int
def Cfg.cells (c : Cfg) : List Value := [.int .i64 c.t, .int .i64 c.s, .int .i64 c.c, .int .i64 c.h, .int .i64 c.k, .int .i64 c.e, .int .i64 c.l]
def Cfg.val (c : Cfg) : Value := .agg #[.int .i64 c.t, .int .i64 c.s, .int .i64 c.c, .int .i64 c.h, .int .i64 c.k, .int .i64 c.e, .int .i64 c.l]
/-- All its numbers are such. -/
structure Cfg.wf (c : Cfg) : Prop where
  wt : (Lit.int .i64 c.t).wf = true
  ws : (Lit.int .i64 c.s).wf = true
  wc : (Lit.int .i64 c.c).wf = true
  wh : (Lit.int .i64 c.h).wf = true
  wk : (Lit.int .i64 c.k).wf = true
  we : (Lit.int .i64 c.e).wf = true
  wl : (Lit.int .i64 c.l).wf = true
structure Plc where
  k : Int
  a : Int
  b : Int
  deriving DecidableEq
def Plc.val (p : Plc) : Value := .agg #[.int .i64 p.k, .int .i64 p.a, .int .i64 p.b]
def wiB (n a b : Int) : Bool := decide (a ≤ n) && decide (n ≤ b)
theorem wiB_true {n a b : Int} : wiB n a b = true ↔ a ≤ n ∧ n ≤ b := by simp [wiB]
def riB (c : Cfg) : Bool := wiB c.t 1 8 && wiB c.s 1 8 && wiB c.c 1 64 && wiB c.h 1 6 && wiB c.k 1 64 && wiB c.e 1 64 && wiB c.l 0 1073741823
structure Rt (c : Cfg) : Prop where
  t0 : 1 ≤ c.t
  t1 : c.t ≤ 8
  s0 : 1 ≤ c.s
  s1 : c.s ≤ 8
  c0 : 1 ≤ c.c
  c1 : c.c ≤ 64
  h0 : 1 ≤ c.h
  h1 : c.h ≤ 6
  k0 : 1 ≤ c.k
  k1 : c.k ≤ 64
  e0 : 1 ≤ c.e
  e1 : c.e ≤ 64
  l0 : 0 ≤ c.l
  l1 : c.l ≤ 1073741823
theorem riB_true {c : Cfg} : riB c = true ↔ Rt c := by
  simp only [riB, Bool.and_eq_true, wiB_true]
  constructor
  · rintro ⟨⟨⟨⟨⟨⟨⟨a1, a2⟩, b1, b2⟩, c1, c2⟩, d1, d2⟩, e1, e2⟩, f1, f2⟩, g1, g2⟩
    exact ⟨a1, a2, b1, b2, c1, c2, d1, d2, e1, e2, f1, f2, g1, g2⟩
  · rintro ⟨a1, a2, b1, b2, c1, c2, d1, d2, e1, e2, f1, f2, g1, g2⟩
    exact ⟨⟨⟨⟨⟨⟨⟨a1, a2⟩, b1, b2⟩, c1, c2⟩, d1, d2⟩, e1, e2⟩, f1, f2⟩, g1, g2⟩
/-- The first field's cell, how many fields a slot has, how many cells there are. -/
def ffV (c : Cfg) : Int := RowKit.wrap64 (1 + RowKit.wrap64 (c.t * c.s))
def fdV (c : Cfg) : Int := RowKit.wrap64 (6 + c.h)
def lnV (c : Cfg) : Int := if riB c then 1 + c.t * c.s + (c.c + 1) * (6 + c.h) else 0
def whV (c : Cfg) (x : Int) : Plc :=
  if 0 ≤ x ∧ x < lnV c then (if x = 0 then ⟨1, 0, 0⟩ else if 1 + c.t * c.s ≤ x then ⟨3, (x - (1 + c.t * c.s)) / (6 + c.h), (x - (1 + c.t * c.s)) % (6 + c.h)⟩ else ⟨2, (x - 1) / c.s, (x - 1) % c.s⟩) else ⟨0, 0, 0⟩
def inR (c : Cfg) (a b : Int) : Prop := riB c = true ∧ 0 ≤ a ∧ a < c.t ∧ 0 ≤ b ∧ b < c.s
def inF (c : Cfg) (a b : Int) : Prop := riB c = true ∧ 0 ≤ a ∧ a ≤ c.c ∧ 0 ≤ b ∧ b < 6 + c.h
instance (c : Cfg) (a b : Int) : Decidable (inR c a b) := by unfold inR; infer_instance
instance (c : Cfg) (a b : Int) : Decidable (inF c a b) := by unfold inF; infer_instance
def rsV (c : Cfg) (a b : Int) : Int := if inR c a b then 1 + a * c.s + b else -1
def clV' (c : Cfg) (a b : Int) : Int := if inF c a b then 1 + c.t * c.s + a * (6 + c.h) + b else -1
def ckV (c : Cfg) (x : Int) (p : Plc) : Int := if whV c x = p then x else -1
theorem ts_bd {c : Cfg} (h : Rt c) : 1 ≤ c.t * c.s ∧ c.t * c.s ≤ 64 := by
  have a := Int.mul_le_mul h.t0 h.s0 (by decide) (by have := h.t0; omega)
  have b := Int.mul_le_mul h.t1 h.s1 (by have := h.s0; omega) (by decide)
  omega
theorem cf_bd {c : Cfg} (h : Rt c) : 14 ≤ (c.c + 1) * (6 + c.h) ∧ (c.c + 1) * (6 + c.h) ≤ 780 := by
  have a := Int.mul_le_mul (show (2 : Int) ≤ c.c + 1 by have := h.c0; omega) (show (7 : Int) ≤ 6 + c.h by have := h.h0; omega) (by decide) (by have := h.c0; omega)
  have b := Int.mul_le_mul (show c.c + 1 ≤ (65 : Int) by have := h.c1; omega) (show 6 + c.h ≤ (12 : Int) by have := h.h1; omega) (by have := h.h0; omega) (by decide)
  omega
theorem wrap_id {x : Int} (h0 : -9223372036854775808 ≤ x) (h1 : x ≤ 9223372036854775807) : RowKit.wrap64 x = x := by
  unfold RowKit.wrap64; omega
theorem ff_eq {c : Cfg} (h : Rt c) : ffV c = 1 + c.t * c.s := by
  have := ts_bd h
  unfold ffV; rw [wrap_id (x := c.t * c.s) (by omega) (by omega), wrap_id (by omega) (by omega)]
theorem fd_eq {c : Cfg} (h : Rt c) : fdV c = 6 + c.h := by
  have := h.h0; have := h.h1
  unfold fdV; rw [wrap_id (by omega) (by omega)]
theorem ln_bd (c : Cfg) : 0 ≤ lnV c ∧ lnV c ≤ 900 := by
  unfold lnV; split
  · rename_i h; have h := riB_true.1 h; have := ts_bd h; have := cf_bd h; omega
  · omega
theorem ln_no {c : Cfg} (h : riB c = false) : lnV c = 0 := by simp [lnV, h]
theorem ln_yes {c : Cfg} (h : riB c = true) : lnV c = 1 + c.t * c.s + (c.c + 1) * (6 + c.h) := by simp [lnV, h]
theorem ln_pos (c : Cfg) : decide (0 < lnV c) = riB c := by
  cases h : riB c
  · rw [ln_no h]; rfl
  · rw [ln_yes h]; have h := riB_true.1 h; have := ts_bd h; have := cf_bd h; simp; omega
theorem wh_in {c : Cfg} {x : Int} (h : (whV c x).k ≠ 0) : riB c = true ∧ 0 ≤ x ∧ x < lnV c := by
  unfold whV at h
  split at h
  · rename_i hx
    refine ⟨?_, hx⟩
    cases hr : riB c
    · rw [ln_no hr] at hx; omega
    · rfl
  · exact absurd rfl h
theorem divmod (x d : Int) : x = x / d * d + x % d := by
  have := Int.mul_ediv_add_emod x d
  rw [Int.mul_comm] at this; omega
theorem div_of {a b d : Int} (hb : 0 ≤ b) (hd : b < d) : (a * d + b) / d = a ∧ (a * d + b) % d = b := by
  have hd0 : d ≠ 0 := by omega
  rw [Int.add_comm, Int.add_mul_ediv_right _ _ hd0, Int.add_mul_emod_self_right, Int.ediv_eq_zero_of_lt hb hd, Int.emod_eq_of_lt hb hd]
  omega
theorem mul_in {a d n : Int} (h0 : 0 ≤ a) (h1 : a < n) (hd : 0 ≤ d) : 0 ≤ a * d ∧ a * d + d ≤ n * d := by
  refine ⟨Int.mul_nonneg h0 hd, ?_⟩
  have := Int.mul_le_mul_of_nonneg_right (show a + 1 ≤ n by omega) hd
  rw [Int.add_mul] at this; omega
/-- What a cell is, and where that stands. -/
theorem wh_clock {c : Cfg} {x : Int} (h : (whV c x).k = 1) : x = 0 ∧ whV c x = ⟨1, 0, 0⟩ := by
  unfold whV at h ⊢
  split at h
  · rename_i hx
    rw [if_pos hx]
    split at h
    · rename_i h0; exact ⟨h0, by rw [if_pos h0]⟩
    · split at h <;> simp at h
  · simp at h
theorem wh_res {c : Cfg} {x : Int} (h : (whV c x).k = 2) : inR c (whV c x).a (whV c x).b ∧ x = 1 + (whV c x).a * c.s + (whV c x).b := by
  obtain ⟨hr, x0, x1⟩ := wh_in (c := c) (x := x) (by omega)
  have R := riB_true.1 hr
  have s0 := R.s0
  unfold whV at h ⊢
  rw [if_pos ⟨x0, x1⟩] at h ⊢
  split at h
  · simp at h
  · rename_i hx
    rw [if_neg hx]
    split at h
    · simp at h
    · rename_i h2
      rw [if_neg h2]
      simp only
      have e := divmod (x - 1) c.s
      have m0 := Int.emod_nonneg (x - 1) (show c.s ≠ 0 by omega)
      have m1 := Int.emod_lt_of_pos (x - 1) (show 0 < c.s by omega)
      have d0 := Int.ediv_nonneg (show 0 ≤ x - 1 by omega) (show 0 ≤ c.s by omega)
      have d1 := Int.ediv_lt_of_lt_mul (show 0 < c.s by omega) (show x - 1 < c.t * c.s by omega)
      exact ⟨⟨hr, d0, d1, m0, m1⟩, by omega⟩
theorem wh_fld {c : Cfg} {x : Int} (h : (whV c x).k = 3) : inF c (whV c x).a (whV c x).b ∧ x = 1 + c.t * c.s + (whV c x).a * (6 + c.h) + (whV c x).b := by
  obtain ⟨hr, x0, x1⟩ := wh_in (c := c) (x := x) (by omega)
  have R := riB_true.1 hr
  have h0 := R.h0
  rw [ln_yes hr] at x1
  unfold whV at h ⊢
  rw [ln_yes hr, if_pos ⟨x0, x1⟩] at h ⊢
  split at h
  · simp at h
  · rename_i hx
    rw [if_neg hx]
    split at h
    · rename_i h2
      rw [if_pos h2]
      simp only
      have e := divmod (x - (1 + c.t * c.s)) (6 + c.h)
      have m0 := Int.emod_nonneg (x - (1 + c.t * c.s)) (show 6 + c.h ≠ 0 by omega)
      have m1 := Int.emod_lt_of_pos (x - (1 + c.t * c.s)) (show 0 < 6 + c.h by omega)
      have d0 := Int.ediv_nonneg (show 0 ≤ x - (1 + c.t * c.s) by omega) (show 0 ≤ 6 + c.h by omega)
      have d1 := Int.ediv_lt_of_lt_mul (show 0 < 6 + c.h by omega) (show x - (1 + c.t * c.s) < (c.c + 1) * (6 + c.h) by omega)
      exact ⟨⟨hr, d0, by omega, m0, m1⟩, by omega⟩
    · simp at h
theorem res_wh {c : Cfg} {a b : Int} (h : inR c a b) : whV c (1 + a * c.s + b) = ⟨2, a, b⟩ ∧ 1 ≤ 1 + a * c.s + b ∧ 1 + a * c.s + b < 1 + c.t * c.s := by
  obtain ⟨hr, a0, a1, b0, b1⟩ := h
  have R := riB_true.1 hr
  have s0 := R.s0
  have := mul_in a0 a1 (show 0 ≤ c.s by omega)
  have := cf_bd R
  obtain ⟨e1, e2⟩ := div_of (a := a) b0 b1
  refine ⟨?_, by omega, by omega⟩
  unfold whV
  rw [ln_yes hr, if_pos ⟨by omega, by omega⟩, if_neg (by omega), if_neg (by omega), show 1 + a * c.s + b - 1 = a * c.s + b by omega, e1, e2]
theorem fld_wh {c : Cfg} {a b : Int} (h : inF c a b) : whV c (1 + c.t * c.s + a * (6 + c.h) + b) = ⟨3, a, b⟩ ∧ 1 + c.t * c.s ≤ 1 + c.t * c.s + a * (6 + c.h) + b ∧ 1 + c.t * c.s + a * (6 + c.h) + b < lnV c := by
  obtain ⟨hr, a0, a1, b0, b1⟩ := h
  have R := riB_true.1 hr
  have h0 := R.h0
  have := mul_in a0 (show a < c.c + 1 by omega) (show 0 ≤ 6 + c.h by omega)
  have := ts_bd R
  obtain ⟨e1, e2⟩ := div_of (a := a) b0 b1
  refine ⟨?_, by omega, by rw [ln_yes hr]; omega⟩
  unfold whV
  rw [ln_yes hr, if_pos ⟨by omega, by omega⟩, if_neg (by omega), if_pos (by omega), show 1 + c.t * c.s + a * (6 + c.h) + b - (1 + c.t * c.s) = a * (6 + c.h) + b by omega, e1, e2]
theorem ck_rs (c : Cfg) (a b : Int) : ckV c (RowKit.wrap64 (RowKit.wrap64 (1 + RowKit.wrap64 (a * c.s)) + b)) ⟨2, a, b⟩ = rsV c a b := by
  unfold ckV rsV
  by_cases h : inR c a b
  · rw [if_pos h]
    obtain ⟨e, h0, h1⟩ := res_wh h
    have R := riB_true.1 h.1
    have := ts_bd R
    have := mul_in h.2.1 h.2.2.1 (show 0 ≤ c.s by have := R.s0; omega)
    have b0 := h.2.2.2.1; have b1 := h.2.2.2.2; have := R.s1
    rw [wrap_id (x := a * c.s) (by omega) (by omega), wrap_id (x := 1 + a * c.s) (by omega) (by omega), wrap_id (by omega) (by omega), if_pos e]
  · rw [if_neg h]
    generalize RowKit.wrap64 (RowKit.wrap64 (1 + RowKit.wrap64 (a * c.s)) + b) = x
    rw [if_neg]
    intro e
    have := (wh_res (c := c) (x := x) (by rw [e])).1
    rw [e] at this
    exact h this
theorem ck_cl (c : Cfg) (a b : Int) : ckV c (RowKit.wrap64 (RowKit.wrap64 (ffV c + RowKit.wrap64 (a * fdV c)) + b)) ⟨3, a, b⟩ = clV' c a b := by
  unfold ckV clV'
  by_cases h : inF c a b
  · rw [if_pos h]
    obtain ⟨e, h0, h1⟩ := fld_wh h
    have R := riB_true.1 h.1
    have := ts_bd R; have := cf_bd R
    have := mul_in h.2.1 (show a < c.c + 1 by have := h.2.2.1; omega) (show 0 ≤ 6 + c.h by have := R.h0; omega)
    have b0 := h.2.2.2.1; have b1 := h.2.2.2.2; have := R.h1
    rw [ff_eq R, fd_eq R, wrap_id (x := a * (6 + c.h)) (by omega) (by omega), wrap_id (x := 1 + c.t * c.s + a * (6 + c.h)) (by omega) (by omega), wrap_id (by omega) (by omega), if_pos e]
  · rw [if_neg h]
    generalize RowKit.wrap64 (RowKit.wrap64 (ffV c + RowKit.wrap64 (a * fdV c)) + b) = x
    rw [if_neg]
    intro e
    have := (wh_fld (c := c) (x := x) (by rw [e])).1
    rw [e] at this
    exact h this
end Go.Proofs.YtgafmklfpiipcaaGreatDoor
