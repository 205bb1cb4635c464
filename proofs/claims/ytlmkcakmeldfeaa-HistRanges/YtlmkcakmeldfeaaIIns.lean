/-
  The library's sort of a few ints, one put in its place behind the other.
-/
import Derived.Test.YtlmkcakmeldfeaaIRow
namespace Go.Proofs.Ytlmkcakmeldfeaa.I
set_option maxRecDepth 100000
open Go.RowKit
open Go.Deep
open Go.Proofs.Ytlmkcakmeldfeaa.Q
variable {ok : Pr → Prop} {L : Nat}
set_option maxHeartbeats 2000000 in
theorem insertion_any (g n cap a b : Nat) (f : Fn) (w : World) (hR : RF ok w g n f) (hC : Hid (Cmp ok w g L)) (h1 : a ≤ b) (h2 : b ≤ n) (hn : n ≤ 1000) :
    Calls Try.prog 60 #[.slice (some ⟨g, 0, none⟩) n cap, .int .i64 a, .int .i64 b, .func (.func 26) #[] #[.pointer (some ⟨L, 0, none⟩)]] w fun o w' => o = .returned (.tuple #[]) ∧ ∃ f', RF ok w' g n f' ∧ StP f f' a b ∧ Sor f' a b ∧ Kept [g] w w' := by
  go_enter Try.func60, Try.ntmps60
  go_wp2
  go_loopw [8] (fun vi wr => ∃ (i : Nat) (h : Fn), a < i ∧ (i ≤ b ∨ i = a + 1) ∧ vi = .int .i64 i ∧ RF ok wr g n h ∧ Hid (StP f h a b ∧ Sor h a i) ∧ Kept [g] w wr) (fun vi _ => b - (intOf vi).toNat)
  case atStart => exact ⟨a + 1, f, by omega, by omega, by go_num, hR, ⟨StP.refl _ _ _, fun i j _ _ _ => by omega⟩, Kept.refl _ _⟩
  case round =>
    obtain ⟨i, h, hai, hib, rfl, R, E, K⟩ := hrel
    by_cases hlt : i < b
    · have hltz : (i : Int) < (b : Int) := by omega
      go_wp2
      go_loopw [9] (fun vj wr2 => ∃ j : Nat, a ≤ j ∧ j ≤ i ∧ vj = .int .i64 j ∧ RF ok wr2 g n (rot h j i (i + 1)) ∧ Hid (∀ t, j ≤ t → t < i → (h i).k < (h t).k) ∧ Kept [g] w wr2) (fun vj _ => (intOf vj).toNat)
      case atStart => exact ⟨i, by omega, Nat.le_refl _, rfl, by rw [rot_none]; exact R, (fun t h3 h4 => by omega), K⟩
      case round =>
        clear R K
        obtain ⟨j, haj, hji, rfl, R, G, K⟩ := hrel
        have OUT : Hid ((j = a ∨ (h (j - 1)).k ≤ (h i).k) → StP f (rot h j i (i + 1)) a b ∧ Sor (rot h j i (i + 1)) a (i + 1)) := fun hl => by
          obtain ⟨s1, s2⟩ := ins_sor E.out.2 haj hji G.out hl
          exact ⟨E.out.1.trans (s1.wide (Nat.le_refl _) (by omega) (by omega)), s2⟩
        by_cases hja : a < j
        · obtain ⟨jp, rfl⟩ : ∃ jp, j = jp + 1 := ⟨j - 1, by omega⟩
          have hjaz : (a : Int) < (jp : Int) + 1 := by omega
          have hjd : decide ((a : Int) < (jp : Int) + 1) = true := decide_eq_true hjaz
          obtain ⟨x, hx⟩ : ∃ x, h i = x := ⟨_, rfl⟩
          obtain ⟨y, hy⟩ : ∃ y, h jp = y := ⟨_, rfl⟩
          have r1 : rot h (jp + 1) i (i + 1) (jp + 1) = x := by rw [rot1 ⟨by omega, by omega⟩, ← hx]; congr 1; omega
          have r0 : rot h (jp + 1) i (i + 1) jp = y := by rw [rot0 (by omega) (by omega) (by omega)]; exact hy
          have a0 := R.c (i := jp + 1) (by omega)
          have a1 := R.isok (i := jp + 1) (by omega)
          have b0 := R.c (i := jp) (by omega)
          have b1 := R.isok (i := jp) (by omega)
          rw [r1] at a0 a1
          rw [r0] at b0 b1
          have A0 : ∀ p : KW wr, p.val.cell? ⟨g, (jp + 1), none⟩ = some (.int .i64 x.v) := KW.cell a0
          have B0 : ∀ p : KW wr, p.val.cell? ⟨g, jp, none⟩ = some (.int .i64 y.v) := KW.cell b0
          obtain ⟨c, hc⟩ : ∃ c, c = cpI x.k y.k := ⟨_, rfl⟩
          have HC := cmp_kw K hC x y a1 b1 c hc
          have z1 : (jp : Int) + 1 < (n : Int) := by omega
          have z0 : (jp : Int) < (n : Int) := by omega
          have z3 : (0 : Int) ≤ (jp : Int) + 1 := by omega
          have e3 : ((jp : Int) + 1).toNat = jp + 1 := by omega
          by_cases hlv : x.k < y.k
          · have hcd : decide (c < 0) = true := decide_eq_true (by rw [hc]; exact cpI_lt.2 hlv)
            clear hc
            go_wp2_with fail
            refine wp_region_kept (by kernel_rfl) (by kernel_rfl) ?_
            repeat (first
              | go_big_quiet_step ((first | (go_at_call 26; exact HC.out _)))
              | quiet_step ((first | (go_at_call 26; exact HC.out _))))
            refine wpQuiet_nil ?_
            intro _ hw'
            obtain ⟨pq, hw''⟩ := hw'
            subst hw''
            have R2 := R.new pq.kept
            have K2 := Kept.of_kw K pq
            have a0 := A0 pq
            have b0 := B0 pq
            have fr := R2.free
            clear A0 B0 HC OUT R K
            generalize pq.val = W at R2 K2 a0 b0 fr ⊢
            clear pq
            have n1 : ¬ (jp + 1) = jp := by omega
            have n2 : ¬ jp = (jp + 1) := by omega
            have HP : Hid (rot h (jp + 1) i (i + 1) jp = y ∧ rot h (jp + 1) i (i + 1) (jp + 1) = x) := ⟨r0, r1⟩
            have HX : Hid (h i = x ∧ h jp = y) := ⟨hx, hy⟩
            clear r0 r1 hx hy
            go_wp2_with fail
            go_region
            go_wp2
            go_roundw
            case rel =>
              refine ⟨jp, by omega, by omega, (by first | rfl | go_num | (congr 1; omega)), ?_, ?_, (K2.trans Kept.put2).drew⟩
              · have R3 := R2.xch (i := jp + 1) (j := jp) (by omega) (by omega) HP.out.1 HP.out.2
                rw [rot_down h (by omega)] at R3
                exact R3.drew
              · intro t t1 t2
                by_cases q : t = jp
                · subst q; rw [HX.out.1, HX.out.2]; exact hlv
                · exact G.out t (by omega) t2
            case measure => simp [intOf]
          · have hcd : decide (c < 0) = false := decide_eq_false (by rw [hc]; exact fun q => hlv (cpI_lt.1 q))
            clear hc
            go_wp2_with fail
            refine wp_region_kept (by kernel_rfl) (by kernel_rfl) ?_
            repeat (first
              | go_big_quiet_step ((first | (go_at_call 26; exact HC.out _)))
              | quiet_step ((first | (go_at_call 26; exact HC.out _))))
            refine wpQuiet_nil ?_
            intro _ hw'
            obtain ⟨pq, hw''⟩ := hw'
            subst hw''
            have R2 := R.new pq.kept
            have K2 := Kept.of_kw K pq
            have OO := OUT.out (Or.inr (by rw [Nat.add_sub_cancel, hx, hy]; omega))
            clear A0 B0 HC OUT R K a0 a1 b0 b1
            go_wp2
            go_roundw
            case rel => exact ⟨i + 1, _, by omega, by omega, by go_num, R2, OO, K2⟩
            case measure => simp [intOf]; omega
        · have hjd : decide ((a : Int) < (j : Int)) = false := decide_eq_false (by omega)
          have hjn : ¬ (a : Int) < (j : Int) := by omega
          have OO := OUT.out (Or.inl (by omega))
          clear OUT
          go_wp2_with fail
          refine wp_region_kept (by kernel_rfl) (by kernel_rfl) ?_
          repeat (first
            | go_big_quiet_step (fail)
            | quiet_step (fail))
          refine wpQuiet_nil ?_
          intro _ hw'
          obtain ⟨pq, hw''⟩ := hw'
          subst hw''
          have R2 := R.new pq.kept
          have K2 := Kept.of_kw K pq
          go_wp2
          go_roundw
          case rel => exact ⟨i + 1, _, by omega, by omega, by go_num, R2, OO, K2⟩
          case measure => simp [intOf]; omega
    · go_wp2
      go_end0
      exact ⟨rfl, h, R, E.out.1, fun x y h3 h4 h5 => E.out.2 x y h3 h4 (by omega), K⟩
end Go.Proofs.Ytlmkcakmeldfeaa.I
