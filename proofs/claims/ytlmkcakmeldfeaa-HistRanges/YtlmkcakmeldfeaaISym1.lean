/-
  The library's merge in place of two parts of ints that are sorted each: the second has one alone.
-/
import Derived.Test.YtlmkcakmeldfeaaIIns
namespace Go.Proofs.Ytlmkcakmeldfeaa.I
set_option maxRecDepth 100000
open Go.RowKit
open Go.Deep
open Go.Proofs.Ytlmkcakmeldfeaa.Q
variable {ok : Pr → Prop} {L : Nat}
/-- The second part has one pair alone. -/
theorem sym_last (g n cap a m : Nat) (f : Fn) (w : World) (hR : RF ok w g n f) (hC : Hid (Cmp ok w g L)) (h1 : a + 1 < m) (h2 : m + 1 ≤ n) (hn : n ≤ 1000) (hs : Sor f a m) :
    Calls Try.prog 61 #[.slice (some ⟨g, 0, none⟩) n cap, .int .i64 a, .int .i64 m, .int .i64 ((m + 1 : Nat) : Int), .func (.func 26) #[] #[.pointer (some ⟨L, 0, none⟩)]] w fun o w' => o = .returned (.tuple #[]) ∧ ∃ f', RF ok w' g n f' ∧ StP f f' a (m + 1) ∧ Sor f' a (m + 1) ∧ Kept [g] w w' := by
  obtain ⟨b, hb⟩ : ∃ b, b = m + 1 := ⟨_, rfl⟩
  rw [← hb]
  have M : Hid _ := hb
  have t1 : ¬ (m : Int) - (a : Int) = 1 := by omega
  have t3 : ((m : Int) - (a : Int) == 1) = false := by simp; omega
  have t2 : (b : Int) - (m : Int) = 1 := by omega
  clear hb
  go_enter Try.func61, Try.ntmps61
  go_wp2
  go_loopw [14, 15, 16] (fun vi vj _ wr => ∃ i j : Nat, a ≤ i ∧ i ≤ j ∧ j ≤ m ∧ vi = .int .i64 i ∧ vj = .int .i64 j ∧ RF ok wr g n f ∧ Hid ((i = a ∨ (f (i - 1)).k ≤ (f m).k) ∧ (j = m ∨ (f m).k < (f j).k)) ∧ Kept [g] w wr) (fun vi vj _ _ => (intOf vj).toNat - (intOf vi).toNat)
  case atStart => exact ⟨a, m, Nat.le_refl _, by omega, Nat.le_refl _, rfl, rfl, hR, ⟨Or.inl rfl, Or.inl rfl⟩, Kept.refl _ _⟩
  case round =>
    obtain ⟨i, j, hai, hij, hjm, rfl, rfl, R, E, K⟩ := hrel
    by_cases hlt : i < j
    · have hltz : (i : Int) < (j : Int) := by omega
      obtain ⟨c, hc⟩ : ∃ c, c = (i + j) / 2 := ⟨_, rfl⟩
      have ec : ((i : Int) + (j : Int)) / 2 = (c : Int) := by omega
      have hci : i ≤ c := by omega
      have hcj : c < j := by omega
      clear hc
      obtain ⟨x, hx⟩ : ∃ x, f m = x := ⟨_, rfl⟩
      obtain ⟨y, hy⟩ : ∃ y, f c = y := ⟨_, rfl⟩
      have a0 := R.c (i := m) (by omega)
      have a1 := R.isok (i := m) (by omega)
      have b0 := R.c (i := c) (by omega)
      have b1 := R.isok (i := c) (by omega)
      rw [hx] at a0 a1
      rw [hy] at b0 b1
      have A0 : ∀ p : KW wr, p.val.cell? ⟨g, m, none⟩ = some (.int .i64 x.v) := KW.cell a0
      have B0 : ∀ p : KW wr, p.val.cell? ⟨g, c, none⟩ = some (.int .i64 y.v) := KW.cell b0
      obtain ⟨r, hr⟩ : ∃ r, r = cpI x.k y.k := ⟨_, rfl⟩
      have HC := cmp_kw K hC x y a1 b1 r hr
      have z1 : (c : Int) < (n : Int) := by omega
      have z0 : (m : Int) < (n : Int) := by omega
      by_cases hlv : x.k < y.k
      · have hcd : decide (r < 0) = true := decide_eq_true (by rw [hr]; exact cpI_lt.2 hlv)
        clear hr
        go_wp2_with fail
        refine wp_region_kept (by kernel_rfl) (by kernel_rfl) ?_
        repeat (first
          | go_big_quiet_step ((first | (go_at_call 26; exact HC.out _)))
          | quiet_step ((first | (go_at_call 26; exact HC.out _))))
        refine wpQuiet_nil ?_
        intro _ hw'
        obtain ⟨pq, hw''⟩ := hw'
        subst hw''
        have R2 := R.new pq.kept
        have K2 := Kept.of_kw K pq
        clear A0 B0 HC R K a0 a1 b0 b1
        go_wp2
        go_roundw
        case rel => exact ⟨i, c, by omega, by omega, by omega, rfl, by first | rfl | go_num, R2, ⟨E.out.1, Or.inr (by rw [hx, hy]; exact hlv)⟩, K2⟩
        case measure => simp [intOf]; omega
      · have hcd : decide (r < 0) = false := decide_eq_false (by rw [hr]; exact fun q => hlv (cpI_lt.1 q))
        clear hr
        go_wp2_with fail
        refine wp_region_kept (by kernel_rfl) (by kernel_rfl) ?_
        repeat (first
          | go_big_quiet_step ((first | (go_at_call 26; exact HC.out _)))
          | quiet_step ((first | (go_at_call 26; exact HC.out _))))
        refine wpQuiet_nil ?_
        intro _ hw'
        obtain ⟨pq, hw''⟩ := hw'
        subst hw''
        have R2 := R.new pq.kept
        have K2 := Kept.of_kw K pq
        clear A0 B0 HC R K a0 a1 b0 b1
        go_wp2
        go_roundw
        case rel => exact ⟨c + 1, j, by omega, by omega, hjm, by go_num, rfl, R2, ⟨Or.inr (by rw [Nat.add_sub_cancel, hx, hy]; omega), E.out.2⟩, K2⟩
        case measure => simp [intOf]; omega
    · obtain rfl : i = j := by omega
      have hltz : ¬ (i : Int) < (i : Int) := by omega
      have hz : Hid (StP f (rot f i m (m + 1)) a (m + 1) ∧ Sor (rot f i m (m + 1)) a (m + 1)) := last_sor hs hai hjm E.out.1 E.out.2
      go_wp2
      go_loopw [17] (fun vk wr2 => ∃ k : Nat, i ≤ k ∧ k ≤ m ∧ vk = .int .i64 k ∧ RF ok wr2 g n (rot f k m (m + 1)) ∧ Kept [g] w wr2) (fun vk _ => (intOf vk).toNat)
      case atStart => exact ⟨m, hjm, Nat.le_refl _, rfl, by rw [rot_none]; exact R, K⟩
      case round =>
        clear R K
        obtain ⟨k, hik, hkm, rfl, R, K⟩ := hrel
        by_cases hlt2 : i < k
        · obtain ⟨k, rfl⟩ : ∃ kp, k = kp + 1 := ⟨k - 1, by omega⟩
          have q1 : (i : Int) < (k : Int) + 1 := by omega
          obtain ⟨x, hx⟩ : ∃ x, rot f (k + 1) m (m + 1) k = x := ⟨_, rfl⟩
          obtain ⟨y, hy⟩ : ∃ y, rot f (k + 1) m (m + 1) (k + 1) = y := ⟨_, rfl⟩
          have a0 := R.c (i := k) (by omega)
          have a1 := R.isok (i := k) (by omega)
          have b0 := R.c (i := k + 1) (by omega)
          have b1 := R.isok (i := k + 1) (by omega)
          rw [hx] at a0 a1
          rw [hy] at b0 b1
          have HP : Hid (rot f (k + 1) m (m + 1) k = x ∧ rot f (k + 1) m (m + 1) (k + 1) = y) := ⟨hx, hy⟩
          clear hx hy
          have fr := R.free
          have n1 : ¬ (k + 1) = k := by omega
          have n2 : ¬ k = (k + 1) := by omega
          have z1 : (k : Int) + 1 < (n : Int) := by omega
          have z0 : (k : Int) < (n : Int) := by omega
          have z3 : (0 : Int) ≤ (k : Int) + 1 := by omega
          have e3 : ((k : Int) + 1).toNat = k + 1 := by omega
          go_wp2_with fail
          go_region
          go_wp2
          go_roundw
          case rel =>
            refine ⟨k, by omega, by omega, (by first | rfl | go_num | (congr 1; omega)), ?_, (K.trans Kept.put2).drew⟩
            have R3 := R.xch (i := k + 1) (j := k) (by omega) (by omega) HP.out.1 HP.out.2
            rw [rot_down f hkm] at R3
            exact R3.drew
          case measure => simp [intOf]
        · have q1 : ¬ (i : Int) < (k : Int) := by omega
          obtain rfl : i = k := by omega
          go_wp2
          refine bodyPost_ret (results_none rfl _ _ _) rfl ?_
          rw [M.out]
          exact ⟨rfl, _, R, hz.out.1, hz.out.2, K⟩
end Go.Proofs.Ytlmkcakmeldfeaa.I
