/-
  The library's merge in place of two parts of ints that are sorted each: in general.
-/
import Derived.Test.YtlmkcakmeldfeaaISym
import Derived.Test.YtlmkcakmeldfeaaISym1
namespace Go.Proofs.Ytlmkcakmeldfeaa.I
set_option maxRecDepth 100000
open Go.RowKit
open Go.Deep
open Go.Proofs.Ytlmkcakmeldfeaa.Q
variable {ok : Pr → Prop} {L : Nat}
/-- What is to be shown of a merge. -/
def SymM (ok : Pr → Prop) (L : Nat) (d : Nat) : Prop := ∀ (g n cap a m b : Nat) (f : Fn) (w : World), b - a ≤ d → RF ok w g n f → Hid (Cmp ok w g L) → a < m → m < b → b ≤ n → n ≤ 1000 → Sor f a m → Sor f m b →
    Calls Try.prog 61 #[.slice (some ⟨g, 0, none⟩) n cap, .int .i64 a, .int .i64 m, .int .i64 b, .func (.func 26) #[] #[.pointer (some ⟨L, 0, none⟩)]] w fun o w' => o = .returned (.tuple #[]) ∧ ∃ f', RF ok w' g n f' ∧ StP f f' a b ∧ Sor f' a b ∧ Kept [g] w w'
theorem SymM.at {d : Nat} (H : SymM ok L d) (g n cap a m b : Nat) (x y z : Int) (f : Fn) (w : World) (h0 : b - a ≤ d) (hR : RF ok w g n f) (hC : Hid (Cmp ok w g L)) (h1 : a < m) (h2 : m < b) (h3 : b ≤ n) (hn : n ≤ 1000) (s1 : Sor f a m) (s2 : Sor f m b) (hx : x = a) (hy : y = m) (hz : z = b) :
    Calls Try.prog 61 #[.slice (some ⟨g, 0, none⟩) n cap, .int .i64 x, .int .i64 y, .int .i64 z, .func (.func 26) #[] #[.pointer (some ⟨L, 0, none⟩)]] w fun o w' => o = .returned (.tuple #[]) ∧ ∃ f', RF ok w' g n f' ∧ StP f f' a b ∧ Sor f' a b ∧ Kept [g] w w' := by
  subst hx hy hz; exact H g n cap a m b f w h0 hR hC h1 h2 h3 hn s1 s2
theorem rotate_at (g n cap a m b : Nat) (x y z : Int) (f : Fn) (fv : Value) (w : World) (hR : RF ok w g n f) (h1 : a < m) (h2 : m < b) (h3 : b ≤ n) (hn : n ≤ 1000) (hx : x = a) (hy : y = m) (hz : z = b) :
    Calls Try.prog 68 #[.slice (some ⟨g, 0, none⟩) n cap, .int .i64 x, .int .i64 y, .int .i64 z, fv] w fun o w' => o = .returned (.tuple #[]) ∧ RF ok w' g n (rot f a m b) ∧ Kept [g] w w' := by
  subst hx hy hz; exact rotate_any g n cap a m b f fv w hR h1 h2 h3 hn
set_option maxHeartbeats 8000000 in
theorem sym_high (d : Nat) (ih : Hid (SymM ok L d)) (g n cap a m b mid : Nat) (f : Fn) (w : World) (h0 : b - a ≤ d + 1) (hR : RF ok w g n f) (hC : Hid (Cmp ok w g L)) (h1 : a + 1 < m) (h2 : m + 1 < b) (h3 : b ≤ n) (hn : n ≤ 1000) (s1 : Sor f a m) (s2 : Sor f m b) (hmid : mid = (a + b) / 2) (hm : mid < m) :
    Calls Try.prog 61 #[.slice (some ⟨g, 0, none⟩) n cap, .int .i64 a, .int .i64 m, .int .i64 b, .func (.func 26) #[] #[.pointer (some ⟨L, 0, none⟩)]] w fun o w' => o = .returned (.tuple #[]) ∧ ∃ f', RF ok w' g n f' ∧ StP f f' a b ∧ Sor f' a b ∧ Kept [g] w w' := by
  have t1 : ¬ (m : Int) - (a : Int) = 1 := by omega
  have t3 : ((m : Int) - (a : Int) == 1) = false := by simp; omega
  have t2 : ¬ (b : Int) - (m : Int) = 1 := by omega
  have t4 : ((b : Int) - (m : Int) == 1) = false := by simp; omega
  have em : ((a : Int) + (b : Int)) / 2 = (mid : Int) := by omega
  have m1 : a + b ≤ 2 * mid + 1 := by omega
  have m2 : 2 * mid ≤ a + b := by omega
  clear hmid
  have hmz : (mid : Int) < (m : Int) := by omega
  go_enter Try.func61, Try.ntmps61
  go_wp2
  go_loopw [20, 21, 23] (fun vs vr _ wr => ∃ s r : Nat, (mid + m - b) ≤ s ∧ s ≤ r ∧ r ≤ mid ∧ vs = .int .i64 s ∧ vr = .int .i64 r ∧ RF ok wr g n f ∧ Hid ((s = (mid + m - b) ∨ (f (s - 1)).k ≤ (f (mid + m - s)).k) ∧ (r = mid ∨ (f (mid + m - 1 - r)).k < (f r).k)) ∧ Kept [g] w wr) (fun vs vr _ _ => (intOf vr).toNat - (intOf vs).toNat)
  case atStart => exact ⟨(mid + m - b), mid, Nat.le_refl _, by omega, Nat.le_refl _, by first | rfl | (congr 1; omega), rfl, hR, ⟨Or.inl rfl, Or.inl rfl⟩, Kept.refl _ _⟩
  case round =>
    obtain ⟨s, r, hls, hsr, hrh, rfl, rfl, R, E, K⟩ := hrel
    by_cases hlt : s < r
    · have hltz : (s : Int) < (r : Int) := by omega
      obtain ⟨c, hc⟩ : ∃ c, c = (s + r) / 2 := ⟨_, rfl⟩
      have ec : ((s : Int) + (r : Int)) / 2 = (c : Int) := by omega
      have hci : s ≤ c := by omega
      have hcj : c < r := by omega
      clear hc
      obtain ⟨q, hq⟩ : ∃ q, q = mid + m - 1 - c := ⟨_, rfl⟩
      have eq' : (mid : Int) + (m : Int) - 1 - (c : Int) = (q : Int) := by omega
      have hqn : q < n := by omega
      have HQ : Hid _ := hq
      clear hq
      obtain ⟨x, hx⟩ : ∃ x, f q = x := ⟨_, rfl⟩
      obtain ⟨y, hy⟩ : ∃ y, f c = y := ⟨_, rfl⟩
      have a0 := R.c (i := q) hqn
      have a1 := R.isok (i := q) hqn
      have b0 := R.c (i := c) (by omega)
      have b1 := R.isok (i := c) (by omega)
      rw [hx] at a0 a1
      rw [hy] at b0 b1
      have A0 : ∀ p : KW wr, p.val.cell? ⟨g, q, none⟩ = some (.int .i64 x.v) := KW.cell a0
      have B0 : ∀ p : KW wr, p.val.cell? ⟨g, c, none⟩ = some (.int .i64 y.v) := KW.cell b0
      obtain ⟨u, hu⟩ : ∃ u, u = cpI x.k y.k := ⟨_, rfl⟩
      have HC := cmp_kw K hC x y a1 b1 u hu
      have z1 : (c : Int) < (n : Int) := by omega
      have z0 : (q : Int) < (n : Int) := by omega
      by_cases hlv : x.k < y.k
      · have hcd : decide (u < 0) = true := decide_eq_true (by rw [hu]; exact cpI_lt.2 hlv)
        clear hu
        go_wp2_with fail
        refine wp_region_kept (by kernel_rfl) (by kernel_rfl) ?_
        repeat (first
          | go_big_quiet_step ((first | (go_at_call 26; exact HC.out _)))
          | quiet_step ((first | (go_at_call 26; exact HC.out _))))
        refine wpQuiet_nil ?_
        intro _ hw'
        obtain ⟨pq, hw''⟩ := hw'
        subst hw''
        have R2 := R.new pq.kept
        have K2 := Kept.of_kw K pq
        clear A0 B0 HC R K a0 a1 b0 b1
        go_wp2
        go_roundw
        case rel => exact ⟨s, c, by omega, by omega, by omega, rfl, by first | rfl | go_num, R2, ⟨E.out.1, Or.inr (by rw [← HQ.out, hx, hy]; exact hlv)⟩, K2⟩
        case measure => simp [intOf]; omega
      · have hcd : decide (u < 0) = false := decide_eq_false (by rw [hu]; exact fun q => hlv (cpI_lt.1 q))
        clear hu
        go_wp2_with fail
        refine wp_region_kept (by kernel_rfl) (by kernel_rfl) ?_
        repeat (first
          | go_big_quiet_step ((first | (go_at_call 26; exact HC.out _)))
          | quiet_step ((first | (go_at_call 26; exact HC.out _))))
        refine wpQuiet_nil ?_
        intro _ hw'
        obtain ⟨pq, hw''⟩ := hw'
        subst hw''
        have R2 := R.new pq.kept
        have K2 := Kept.of_kw K pq
        clear A0 B0 HC R K a0 a1 b0 b1
        go_wp2
        go_roundw
        case rel => exact ⟨c + 1, r, by omega, by omega, hrh, by go_num, rfl, R2, ⟨Or.inr (by rw [Nat.add_sub_cancel, show mid + m - (c + 1) = q by have := HQ.out; omega, hx, hy]; omega), E.out.2⟩, K2⟩
        case measure => simp [intOf]; omega
    · obtain rfl : s = r := by omega
      have hltz : ¬ (s : Int) < (s : Int) := by omega
      obtain ⟨e, he⟩ : ∃ e, e = mid + m - s := ⟨_, rfl⟩
      have ee : (mid : Int) + (m : Int) - (s : Int) = (e : Int) := by omega
      have b1 : a ≤ s := by omega
      have b2 : s ≤ m := by omega
      have b3 : m ≤ e := by omega
      have b4 : e ≤ b := by omega
      have b5 : s + e = mid + m := by omega
      have CUT := cut_sor b1 b2 b3 b4 b5 s1 s2 (by have := E.out.1; rw [← he] at this; omega) (by have := E.out.2; rw [show mid + m - 1 - s = e - 1 by omega] at this; omega)
      have C : Hid _ := CUT
      have BB : Hid (s + e = mid + m) := b5
      clear CUT he E b5 
      by_cases d1 : s < m ∧ m < e
      · have q1 : (s : Int) < (m : Int) := by omega
        have q2 : (m : Int) < (e : Int) := by omega
        have j1 : decide ((s : Int) < (m : Int)) = true := decide_eq_true q1
        have j2 : decide ((m : Int) < (e : Int)) = true := decide_eq_true q2
        have hc := fun x y z => rotate_at g n cap s m e x y z f (.func (.func 26) #[] #[.pointer (some ⟨L, 0, none⟩)]) _ R d1.1 d1.2 (by omega) hn
        go_wp2_with fail
        refine (hc _ _ _ (by omega) (by omega) (by omega)).mono ?_
        rintro o w2 ⟨rfl, R2, K2⟩
        clear hc
        have KT := K.trans K2
        clear K2
        by_cases d2 : a < s ∧ s < mid
        · have f1 : (a : Int) < (s : Int) := by omega
          have f2 : (s : Int) < (mid : Int) := by omega
          have k1 : decide ((a : Int) < (s : Int)) = true := decide_eq_true f1
          have k2 : decide ((s : Int) < (mid : Int)) = true := decide_eq_true f2
          have hc := fun x y z => ih.out.at g n cap a s mid x y z (rot f s m e) _ (by omega) R2 (cmp_step hC KT) d2.1 d2.2 (by omega) hn C.out.2.1 C.out.2.2.1
          go_wp2_with fail
          refine (hc _ _ _ (by omega) (by omega) (by omega)).mono ?_
          rintro o w3 ⟨rfl, f3, R3, P3, S3, K3⟩
          clear hc
          have X : Hid _ := And.intro P3 S3
          clear P3 S3
          have KK := (KT).trans K3
          clear K3
          by_cases d3 : mid < e ∧ e < b
          · have e1 : (mid : Int) < (e : Int) := by omega
            have e2 : (e : Int) < (b : Int) := by omega
            have g1 : decide ((mid : Int) < (e : Int)) = true := decide_eq_true e1
            have g2 : decide ((e : Int) < (b : Int)) = true := decide_eq_true e2
            have hc := fun x y z => ih.out.at g n cap mid e b x y z f3 _ (by omega) R3 (cmp_step hC KK) d3.1 d3.2 h3 hn (C.out.2.2.2.1.out X.out.1 (Nat.le_refl _)) (C.out.2.2.2.2.1.out X.out.1 (by omega))
            go_wp2_with fail
            all_goals
              refine (hc _ _ _ (by omega) (by omega) (by omega)).mono ?_
              rintro o w4 ⟨rfl, f4, R4, P4, S4, K4⟩
              clear hc
              go_wp2
              go_end0
              have J := join_sor (by omega) (by omega) X.out.1 P4 X.out.2 S4 C.out.2.2.2.2.2
              exact ⟨rfl, f4, R4, C.out.1.trans J.1, J.2, (KK).trans K4⟩
          · have J := join_sor (h := f3) (by omega) (by omega) X.out.1 (StP.refl _ mid b) X.out.2 (by
              have q : mid = e ∨ e = b := by have := BB.out; omega
              rcases q with q | q
              · exact (C.out.2.2.2.2.1.out X.out.1 (by omega)).same q
              · rw [← q]; exact C.out.2.2.2.1.out X.out.1 (Nat.le_refl _)) C.out.2.2.2.2.2
            by_cases d4 : mid < e
            · have e1 : (mid : Int) < (e : Int) := by omega
              have e2 : ¬ (e : Int) < (b : Int) := by omega
              have g1 : decide ((mid : Int) < (e : Int)) = true := decide_eq_true e1
              have g2 : decide ((e : Int) < (b : Int)) = false := decide_eq_false e2
              go_wp2
              all_goals
                go_end0
                exact ⟨rfl, _, R3, C.out.1.trans J.1, J.2, KK⟩
            · have e1 : ¬ (mid : Int) < (e : Int) := by omega
              have g1 : decide ((mid : Int) < (e : Int)) = false := decide_eq_false e1
              go_wp2
              all_goals
                go_end0
                exact ⟨rfl, _, R3, C.out.1.trans J.1, J.2, KK⟩
        · have X : Hid (StP (rot f s m e) (rot f s m e) a mid ∧ Sor (rot f s m e) a mid) := ⟨StP.refl _ _ _, by
            have q : a = s ∨ s = mid := by have := BB.out; omega
            rcases q with q | q
            · exact C.out.2.2.1.same q
            · rw [← q]; exact C.out.2.1⟩
          by_cases d5 : a < s
          · have f1 : (a : Int) < (s : Int) := by omega
            have f2 : ¬ (s : Int) < (mid : Int) := by omega
            have k1 : decide ((a : Int) < (s : Int)) = true := decide_eq_true f1
            have k2 : decide ((s : Int) < (mid : Int)) = false := decide_eq_false f2
            by_cases d3 : mid < e ∧ e < b
            · have e1 : (mid : Int) < (e : Int) := by omega
              have e2 : (e : Int) < (b : Int) := by omega
              have g1 : decide ((mid : Int) < (e : Int)) = true := decide_eq_true e1
              have g2 : decide ((e : Int) < (b : Int)) = true := decide_eq_true e2
              have hc := fun x y z => ih.out.at g n cap mid e b x y z (rot f s m e) _ (by omega) R2 (cmp_step hC KT) d3.1 d3.2 h3 hn (C.out.2.2.2.1.out X.out.1 (Nat.le_refl _)) (C.out.2.2.2.2.1.out X.out.1 (by omega))
              go_wp2_with fail
              all_goals
                refine (hc _ _ _ (by omega) (by omega) (by omega)).mono ?_
                rintro o w4 ⟨rfl, f4, R4, P4, S4, K4⟩
                clear hc
                go_wp2
                go_end0
                have J := join_sor (by omega) (by omega) X.out.1 P4 X.out.2 S4 C.out.2.2.2.2.2
                exact ⟨rfl, f4, R4, C.out.1.trans J.1, J.2, (KT).trans K4⟩
            · have J := join_sor (h := (rot f s m e)) (by omega) (by omega) X.out.1 (StP.refl _ mid b) X.out.2 (by
                have q : mid = e ∨ e = b := by have := BB.out; omega
                rcases q with q | q
                · exact (C.out.2.2.2.2.1.out X.out.1 (by omega)).same q
                · rw [← q]; exact C.out.2.2.2.1.out X.out.1 (Nat.le_refl _)) C.out.2.2.2.2.2
              by_cases d4 : mid < e
              · have e1 : (mid : Int) < (e : Int) := by omega
                have e2 : ¬ (e : Int) < (b : Int) := by omega
                have g1 : decide ((mid : Int) < (e : Int)) = true := decide_eq_true e1
                have g2 : decide ((e : Int) < (b : Int)) = false := decide_eq_false e2
                go_wp2
                all_goals
                  go_end0
                  exact ⟨rfl, _, R2, C.out.1.trans J.1, J.2, KT⟩
              · have e1 : ¬ (mid : Int) < (e : Int) := by omega
                have g1 : decide ((mid : Int) < (e : Int)) = false := decide_eq_false e1
                go_wp2
                all_goals
                  go_end0
                  exact ⟨rfl, _, R2, C.out.1.trans J.1, J.2, KT⟩
          · have f1 : ¬ (a : Int) < (s : Int) := by omega
            have k1 : decide ((a : Int) < (s : Int)) = false := decide_eq_false f1
            by_cases d3 : mid < e ∧ e < b
            · have e1 : (mid : Int) < (e : Int) := by omega
              have e2 : (e : Int) < (b : Int) := by omega
              have g1 : decide ((mid : Int) < (e : Int)) = true := decide_eq_true e1
              have g2 : decide ((e : Int) < (b : Int)) = true := decide_eq_true e2
              have hc := fun x y z => ih.out.at g n cap mid e b x y z (rot f s m e) _ (by omega) R2 (cmp_step hC KT) d3.1 d3.2 h3 hn (C.out.2.2.2.1.out X.out.1 (Nat.le_refl _)) (C.out.2.2.2.2.1.out X.out.1 (by omega))
              go_wp2_with fail
              all_goals
                refine (hc _ _ _ (by omega) (by omega) (by omega)).mono ?_
                rintro o w4 ⟨rfl, f4, R4, P4, S4, K4⟩
                clear hc
                go_wp2
                go_end0
                have J := join_sor (by omega) (by omega) X.out.1 P4 X.out.2 S4 C.out.2.2.2.2.2
                exact ⟨rfl, f4, R4, C.out.1.trans J.1, J.2, (KT).trans K4⟩
            · have J := join_sor (h := (rot f s m e)) (by omega) (by omega) X.out.1 (StP.refl _ mid b) X.out.2 (by
                have q : mid = e ∨ e = b := by have := BB.out; omega
                rcases q with q | q
                · exact (C.out.2.2.2.2.1.out X.out.1 (by omega)).same q
                · rw [← q]; exact C.out.2.2.2.1.out X.out.1 (Nat.le_refl _)) C.out.2.2.2.2.2
              by_cases d4 : mid < e
              · have e1 : (mid : Int) < (e : Int) := by omega
                have e2 : ¬ (e : Int) < (b : Int) := by omega
                have g1 : decide ((mid : Int) < (e : Int)) = true := decide_eq_true e1
                have g2 : decide ((e : Int) < (b : Int)) = false := decide_eq_false e2
                go_wp2
                all_goals
                  go_end0
                  exact ⟨rfl, _, R2, C.out.1.trans J.1, J.2, KT⟩
              · have e1 : ¬ (mid : Int) < (e : Int) := by omega
                have g1 : decide ((mid : Int) < (e : Int)) = false := decide_eq_false e1
                go_wp2
                all_goals
                  go_end0
                  exact ⟨rfl, _, R2, C.out.1.trans J.1, J.2, KT⟩
      · have RR : RF ok wr g n (rot f s m e) := by
          have q : s = m ∨ m = e := by have := BB.out; omega
          rcases q with q | q
          · rw [q, rot_id_l]; exact R
          · rw [← q, rot_id_r]; exact R
        by_cases d6 : s < m
        · have q1 : (s : Int) < (m : Int) := by omega
          have q2 : ¬ (m : Int) < (e : Int) := by omega
          have j1 : decide ((s : Int) < (m : Int)) = true := decide_eq_true q1
          have j2 : decide ((m : Int) < (e : Int)) = false := decide_eq_false q2
          by_cases d2 : a < s ∧ s < mid
          · have f1 : (a : Int) < (s : Int) := by omega
            have f2 : (s : Int) < (mid : Int) := by omega
            have k1 : decide ((a : Int) < (s : Int)) = true := decide_eq_true f1
            have k2 : decide ((s : Int) < (mid : Int)) = true := decide_eq_true f2
            have hc := fun x y z => ih.out.at g n cap a s mid x y z (rot f s m e) _ (by omega) RR (cmp_step hC K) d2.1 d2.2 (by omega) hn C.out.2.1 C.out.2.2.1
            go_wp2_with fail
            refine (hc _ _ _ (by omega) (by omega) (by omega)).mono ?_
            rintro o w3 ⟨rfl, f3, R3, P3, S3, K3⟩
            clear hc
            have X : Hid _ := And.intro P3 S3
            clear P3 S3
            have KK := (K).trans K3
            clear K3
            by_cases d3 : mid < e ∧ e < b
            · have e1 : (mid : Int) < (e : Int) := by omega
              have e2 : (e : Int) < (b : Int) := by omega
              have g1 : decide ((mid : Int) < (e : Int)) = true := decide_eq_true e1
              have g2 : decide ((e : Int) < (b : Int)) = true := decide_eq_true e2
              have hc := fun x y z => ih.out.at g n cap mid e b x y z f3 _ (by omega) R3 (cmp_step hC KK) d3.1 d3.2 h3 hn (C.out.2.2.2.1.out X.out.1 (Nat.le_refl _)) (C.out.2.2.2.2.1.out X.out.1 (by omega))
              go_wp2_with fail
              all_goals
                refine (hc _ _ _ (by omega) (by omega) (by omega)).mono ?_
                rintro o w4 ⟨rfl, f4, R4, P4, S4, K4⟩
                clear hc
                go_wp2
                go_end0
                have J := join_sor (by omega) (by omega) X.out.1 P4 X.out.2 S4 C.out.2.2.2.2.2
                exact ⟨rfl, f4, R4, C.out.1.trans J.1, J.2, (KK).trans K4⟩
            · have J := join_sor (h := f3) (by omega) (by omega) X.out.1 (StP.refl _ mid b) X.out.2 (by
                have q : mid = e ∨ e = b := by have := BB.out; omega
                rcases q with q | q
                · exact (C.out.2.2.2.2.1.out X.out.1 (by omega)).same q
                · rw [← q]; exact C.out.2.2.2.1.out X.out.1 (Nat.le_refl _)) C.out.2.2.2.2.2
              by_cases d4 : mid < e
              · have e1 : (mid : Int) < (e : Int) := by omega
                have e2 : ¬ (e : Int) < (b : Int) := by omega
                have g1 : decide ((mid : Int) < (e : Int)) = true := decide_eq_true e1
                have g2 : decide ((e : Int) < (b : Int)) = false := decide_eq_false e2
                go_wp2
                all_goals
                  go_end0
                  exact ⟨rfl, _, R3, C.out.1.trans J.1, J.2, KK⟩
              · have e1 : ¬ (mid : Int) < (e : Int) := by omega
                have g1 : decide ((mid : Int) < (e : Int)) = false := decide_eq_false e1
                go_wp2
                all_goals
                  go_end0
                  exact ⟨rfl, _, R3, C.out.1.trans J.1, J.2, KK⟩
          · have X : Hid (StP (rot f s m e) (rot f s m e) a mid ∧ Sor (rot f s m e) a mid) := ⟨StP.refl _ _ _, by
              have q : a = s ∨ s = mid := by have := BB.out; omega
              rcases q with q | q
              · exact C.out.2.2.1.same q
              · rw [← q]; exact C.out.2.1⟩
            by_cases d5 : a < s
            · have f1 : (a : Int) < (s : Int) := by omega
              have f2 : ¬ (s : Int) < (mid : Int) := by omega
              have k1 : decide ((a : Int) < (s : Int)) = true := decide_eq_true f1
              have k2 : decide ((s : Int) < (mid : Int)) = false := decide_eq_false f2
              by_cases d3 : mid < e ∧ e < b
              · have e1 : (mid : Int) < (e : Int) := by omega
                have e2 : (e : Int) < (b : Int) := by omega
                have g1 : decide ((mid : Int) < (e : Int)) = true := decide_eq_true e1
                have g2 : decide ((e : Int) < (b : Int)) = true := decide_eq_true e2
                have hc := fun x y z => ih.out.at g n cap mid e b x y z (rot f s m e) _ (by omega) RR (cmp_step hC K) d3.1 d3.2 h3 hn (C.out.2.2.2.1.out X.out.1 (Nat.le_refl _)) (C.out.2.2.2.2.1.out X.out.1 (by omega))
                go_wp2_with fail
                all_goals
                  refine (hc _ _ _ (by omega) (by omega) (by omega)).mono ?_
                  rintro o w4 ⟨rfl, f4, R4, P4, S4, K4⟩
                  clear hc
                  go_wp2
                  go_end0
                  have J := join_sor (by omega) (by omega) X.out.1 P4 X.out.2 S4 C.out.2.2.2.2.2
                  exact ⟨rfl, f4, R4, C.out.1.trans J.1, J.2, (K).trans K4⟩
              · have J := join_sor (h := (rot f s m e)) (by omega) (by omega) X.out.1 (StP.refl _ mid b) X.out.2 (by
                  have q : mid = e ∨ e = b := by have := BB.out; omega
                  rcases q with q | q
                  · exact (C.out.2.2.2.2.1.out X.out.1 (by omega)).same q
                  · rw [← q]; exact C.out.2.2.2.1.out X.out.1 (Nat.le_refl _)) C.out.2.2.2.2.2
                by_cases d4 : mid < e
                · have e1 : (mid : Int) < (e : Int) := by omega
                  have e2 : ¬ (e : Int) < (b : Int) := by omega
                  have g1 : decide ((mid : Int) < (e : Int)) = true := decide_eq_true e1
                  have g2 : decide ((e : Int) < (b : Int)) = false := decide_eq_false e2
                  go_wp2
                  all_goals
                    go_end0
                    exact ⟨rfl, _, RR, C.out.1.trans J.1, J.2, K⟩
                · have e1 : ¬ (mid : Int) < (e : Int) := by omega
                  have g1 : decide ((mid : Int) < (e : Int)) = false := decide_eq_false e1
                  go_wp2
                  all_goals
                    go_end0
                    exact ⟨rfl, _, RR, C.out.1.trans J.1, J.2, K⟩
            · have f1 : ¬ (a : Int) < (s : Int) := by omega
              have k1 : decide ((a : Int) < (s : Int)) = false := decide_eq_false f1
              by_cases d3 : mid < e ∧ e < b
              · have e1 : (mid : Int) < (e : Int) := by omega
                have e2 : (e : Int) < (b : Int) := by omega
                have g1 : decide ((mid : Int) < (e : Int)) = true := decide_eq_true e1
                have g2 : decide ((e : Int) < (b : Int)) = true := decide_eq_true e2
                have hc := fun x y z => ih.out.at g n cap mid e b x y z (rot f s m e) _ (by omega) RR (cmp_step hC K) d3.1 d3.2 h3 hn (C.out.2.2.2.1.out X.out.1 (Nat.le_refl _)) (C.out.2.2.2.2.1.out X.out.1 (by omega))
                go_wp2_with fail
                all_goals
                  refine (hc _ _ _ (by omega) (by omega) (by omega)).mono ?_
                  rintro o w4 ⟨rfl, f4, R4, P4, S4, K4⟩
                  clear hc
                  go_wp2
                  go_end0
                  have J := join_sor (by omega) (by omega) X.out.1 P4 X.out.2 S4 C.out.2.2.2.2.2
                  exact ⟨rfl, f4, R4, C.out.1.trans J.1, J.2, (K).trans K4⟩
              · have J := join_sor (h := (rot f s m e)) (by omega) (by omega) X.out.1 (StP.refl _ mid b) X.out.2 (by
                  have q : mid = e ∨ e = b := by have := BB.out; omega
                  rcases q with q | q
                  · exact (C.out.2.2.2.2.1.out X.out.1 (by omega)).same q
                  · rw [← q]; exact C.out.2.2.2.1.out X.out.1 (Nat.le_refl _)) C.out.2.2.2.2.2
                by_cases d4 : mid < e
                · have e1 : (mid : Int) < (e : Int) := by omega
                  have e2 : ¬ (e : Int) < (b : Int) := by omega
                  have g1 : decide ((mid : Int) < (e : Int)) = true := decide_eq_true e1
                  have g2 : decide ((e : Int) < (b : Int)) = false := decide_eq_false e2
                  go_wp2
                  all_goals
                    go_end0
                    exact ⟨rfl, _, RR, C.out.1.trans J.1, J.2, K⟩
                · have e1 : ¬ (mid : Int) < (e : Int) := by omega
                  have g1 : decide ((mid : Int) < (e : Int)) = false := decide_eq_false e1
                  go_wp2
                  all_goals
                    go_end0
                    exact ⟨rfl, _, RR, C.out.1.trans J.1, J.2, K⟩
        · have q1 : ¬ (s : Int) < (m : Int) := by omega
          have j1 : decide ((s : Int) < (m : Int)) = false := decide_eq_false q1
          by_cases d2 : a < s ∧ s < mid
          · have f1 : (a : Int) < (s : Int) := by omega
            have f2 : (s : Int) < (mid : Int) := by omega
            have k1 : decide ((a : Int) < (s : Int)) = true := decide_eq_true f1
            have k2 : decide ((s : Int) < (mid : Int)) = true := decide_eq_true f2
            have hc := fun x y z => ih.out.at g n cap a s mid x y z (rot f s m e) _ (by omega) RR (cmp_step hC K) d2.1 d2.2 (by omega) hn C.out.2.1 C.out.2.2.1
            go_wp2_with fail
            refine (hc _ _ _ (by omega) (by omega) (by omega)).mono ?_
            rintro o w3 ⟨rfl, f3, R3, P3, S3, K3⟩
            clear hc
            have X : Hid _ := And.intro P3 S3
            clear P3 S3
            have KK := (K).trans K3
            clear K3
            by_cases d3 : mid < e ∧ e < b
            · have e1 : (mid : Int) < (e : Int) := by omega
              have e2 : (e : Int) < (b : Int) := by omega
              have g1 : decide ((mid : Int) < (e : Int)) = true := decide_eq_true e1
              have g2 : decide ((e : Int) < (b : Int)) = true := decide_eq_true e2
              have hc := fun x y z => ih.out.at g n cap mid e b x y z f3 _ (by omega) R3 (cmp_step hC KK) d3.1 d3.2 h3 hn (C.out.2.2.2.1.out X.out.1 (Nat.le_refl _)) (C.out.2.2.2.2.1.out X.out.1 (by omega))
              go_wp2_with fail
              all_goals
                refine (hc _ _ _ (by omega) (by omega) (by omega)).mono ?_
                rintro o w4 ⟨rfl, f4, R4, P4, S4, K4⟩
                clear hc
                go_wp2
                go_end0
                have J := join_sor (by omega) (by omega) X.out.1 P4 X.out.2 S4 C.out.2.2.2.2.2
                exact ⟨rfl, f4, R4, C.out.1.trans J.1, J.2, (KK).trans K4⟩
            · have J := join_sor (h := f3) (by omega) (by omega) X.out.1 (StP.refl _ mid b) X.out.2 (by
                have q : mid = e ∨ e = b := by have := BB.out; omega
                rcases q with q | q
                · exact (C.out.2.2.2.2.1.out X.out.1 (by omega)).same q
                · rw [← q]; exact C.out.2.2.2.1.out X.out.1 (Nat.le_refl _)) C.out.2.2.2.2.2
              by_cases d4 : mid < e
              · have e1 : (mid : Int) < (e : Int) := by omega
                have e2 : ¬ (e : Int) < (b : Int) := by omega
                have g1 : decide ((mid : Int) < (e : Int)) = true := decide_eq_true e1
                have g2 : decide ((e : Int) < (b : Int)) = false := decide_eq_false e2
                go_wp2
                all_goals
                  go_end0
                  exact ⟨rfl, _, R3, C.out.1.trans J.1, J.2, KK⟩
              · have e1 : ¬ (mid : Int) < (e : Int) := by omega
                have g1 : decide ((mid : Int) < (e : Int)) = false := decide_eq_false e1
                go_wp2
                all_goals
                  go_end0
                  exact ⟨rfl, _, R3, C.out.1.trans J.1, J.2, KK⟩
          · have X : Hid (StP (rot f s m e) (rot f s m e) a mid ∧ Sor (rot f s m e) a mid) := ⟨StP.refl _ _ _, by
              have q : a = s ∨ s = mid := by have := BB.out; omega
              rcases q with q | q
              · exact C.out.2.2.1.same q
              · rw [← q]; exact C.out.2.1⟩
            by_cases d5 : a < s
            · have f1 : (a : Int) < (s : Int) := by omega
              have f2 : ¬ (s : Int) < (mid : Int) := by omega
              have k1 : decide ((a : Int) < (s : Int)) = true := decide_eq_true f1
              have k2 : decide ((s : Int) < (mid : Int)) = false := decide_eq_false f2
              by_cases d3 : mid < e ∧ e < b
              · have e1 : (mid : Int) < (e : Int) := by omega
                have e2 : (e : Int) < (b : Int) := by omega
                have g1 : decide ((mid : Int) < (e : Int)) = true := decide_eq_true e1
                have g2 : decide ((e : Int) < (b : Int)) = true := decide_eq_true e2
                have hc := fun x y z => ih.out.at g n cap mid e b x y z (rot f s m e) _ (by omega) RR (cmp_step hC K) d3.1 d3.2 h3 hn (C.out.2.2.2.1.out X.out.1 (Nat.le_refl _)) (C.out.2.2.2.2.1.out X.out.1 (by omega))
                go_wp2_with fail
                all_goals
                  refine (hc _ _ _ (by omega) (by omega) (by omega)).mono ?_
                  rintro o w4 ⟨rfl, f4, R4, P4, S4, K4⟩
                  clear hc
                  go_wp2
                  go_end0
                  have J := join_sor (by omega) (by omega) X.out.1 P4 X.out.2 S4 C.out.2.2.2.2.2
                  exact ⟨rfl, f4, R4, C.out.1.trans J.1, J.2, (K).trans K4⟩
              · have J := join_sor (h := (rot f s m e)) (by omega) (by omega) X.out.1 (StP.refl _ mid b) X.out.2 (by
                  have q : mid = e ∨ e = b := by have := BB.out; omega
                  rcases q with q | q
                  · exact (C.out.2.2.2.2.1.out X.out.1 (by omega)).same q
                  · rw [← q]; exact C.out.2.2.2.1.out X.out.1 (Nat.le_refl _)) C.out.2.2.2.2.2
                by_cases d4 : mid < e
                · have e1 : (mid : Int) < (e : Int) := by omega
                  have e2 : ¬ (e : Int) < (b : Int) := by omega
                  have g1 : decide ((mid : Int) < (e : Int)) = true := decide_eq_true e1
                  have g2 : decide ((e : Int) < (b : Int)) = false := decide_eq_false e2
                  go_wp2
                  all_goals
                    go_end0
                    exact ⟨rfl, _, RR, C.out.1.trans J.1, J.2, K⟩
                · have e1 : ¬ (mid : Int) < (e : Int) := by omega
                  have g1 : decide ((mid : Int) < (e : Int)) = false := decide_eq_false e1
                  go_wp2
                  all_goals
                    go_end0
                    exact ⟨rfl, _, RR, C.out.1.trans J.1, J.2, K⟩
            · have f1 : ¬ (a : Int) < (s : Int) := by omega
              have k1 : decide ((a : Int) < (s : Int)) = false := decide_eq_false f1
              by_cases d3 : mid < e ∧ e < b
              · have e1 : (mid : Int) < (e : Int) := by omega
                have e2 : (e : Int) < (b : Int) := by omega
                have g1 : decide ((mid : Int) < (e : Int)) = true := decide_eq_true e1
                have g2 : decide ((e : Int) < (b : Int)) = true := decide_eq_true e2
                have hc := fun x y z => ih.out.at g n cap mid e b x y z (rot f s m e) _ (by omega) RR (cmp_step hC K) d3.1 d3.2 h3 hn (C.out.2.2.2.1.out X.out.1 (Nat.le_refl _)) (C.out.2.2.2.2.1.out X.out.1 (by omega))
                go_wp2_with fail
                all_goals
                  refine (hc _ _ _ (by omega) (by omega) (by omega)).mono ?_
                  rintro o w4 ⟨rfl, f4, R4, P4, S4, K4⟩
                  clear hc
                  go_wp2
                  go_end0
                  have J := join_sor (by omega) (by omega) X.out.1 P4 X.out.2 S4 C.out.2.2.2.2.2
                  exact ⟨rfl, f4, R4, C.out.1.trans J.1, J.2, (K).trans K4⟩
              · have J := join_sor (h := (rot f s m e)) (by omega) (by omega) X.out.1 (StP.refl _ mid b) X.out.2 (by
                  have q : mid = e ∨ e = b := by have := BB.out; omega
                  rcases q with q | q
                  · exact (C.out.2.2.2.2.1.out X.out.1 (by omega)).same q
                  · rw [← q]; exact C.out.2.2.2.1.out X.out.1 (Nat.le_refl _)) C.out.2.2.2.2.2
                by_cases d4 : mid < e
                · have e1 : (mid : Int) < (e : Int) := by omega
                  have e2 : ¬ (e : Int) < (b : Int) := by omega
                  have g1 : decide ((mid : Int) < (e : Int)) = true := decide_eq_true e1
                  have g2 : decide ((e : Int) < (b : Int)) = false := decide_eq_false e2
                  go_wp2
                  all_goals
                    go_end0
                    exact ⟨rfl, _, RR, C.out.1.trans J.1, J.2, K⟩
                · have e1 : ¬ (mid : Int) < (e : Int) := by omega
                  have g1 : decide ((mid : Int) < (e : Int)) = false := decide_eq_false e1
                  go_wp2
                  all_goals
                    go_end0
                    exact ⟨rfl, _, RR, C.out.1.trans J.1, J.2, K⟩
end Go.Proofs.Ytlmkcakmeldfeaa.I
