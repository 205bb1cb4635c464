/-
  The library's stable sort of ints by a closure.
-/
import Derived.Test.YtlmkcakmeldfeaaISym3
namespace Go.Proofs.Ytlmkcakmeldfeaa.I
set_option maxRecDepth 100000
open Go.RowKit
open Go.Deep
open Go.Proofs.Ytlmkcakmeldfeaa.Q
variable {ok : Pr → Prop} {L : Nat}
theorem insertion_at (g n cap a b : Nat) (x y : Int) (f : Fn) (w : World) (hR : RF ok w g n f) (hC : Hid (Cmp ok w g L)) (h1 : a ≤ b) (h2 : b ≤ n) (hn : n ≤ 1000) (hx : x = a) (hy : y = b) :
    Calls Try.prog 60 #[.slice (some ⟨g, 0, none⟩) n cap, .int .i64 x, .int .i64 y, .func (.func 26) #[] #[.pointer (some ⟨L, 0, none⟩)]] w fun o w' => o = .returned (.tuple #[]) ∧ ∃ f', RF ok w' g n f' ∧ StP f f' a b ∧ Sor f' a b ∧ Kept [g] w w' := by
  subst hx hy; exact insertion_any g n cap a b f w hR hC h1 h2 hn
set_option maxHeartbeats 4000000 in
theorem stable_any (g n cap : Nat) (f : Fn) (w : World) (hR : RF ok w g n f) (hC : Hid (Cmp ok w g L)) (hn : n ≤ 1000) :
    Calls Try.prog 47 #[.slice (some ⟨g, 0, none⟩) n cap, .int .i64 n, .func (.func 26) #[] #[.pointer (some ⟨L, 0, none⟩)]] w fun o w' => o = .returned (.tuple #[]) ∧ ∃ f', RF ok w' g n f' ∧ StP f f' 0 n ∧ Sor f' 0 n ∧ Kept [g] w w' := by
  go_enter Try.func47, Try.ntmps47
  go_wp2
  go_loopw [7, 8] (fun va vb wr => ∃ (a b : Nat) (h : Fn), b = a + 20 ∧ a ≤ n ∧ va = .int .i64 a ∧ vb = .int .i64 b ∧ RF ok wr g n h ∧ Hid (StP f h 0 n ∧ Front h 20 n a) ∧ Kept [g] w wr) (fun _ vb _ => n + 100 - (intOf vb).toNat)
  case atStart => exact ⟨0, 20, f, rfl, Nat.zero_le _, rfl, rfl, hR, ⟨StP.refl _ _ _, Front.start _ _ _⟩, Kept.refl _ _⟩
  case round =>
    obtain ⟨a, b, h, hb, han, rfl, rfl, R, E, K⟩ := hrel
    by_cases hlt : b ≤ n
    · have hltz : (b : Int) ≤ (n : Int) := by omega
      have hc := fun x y => insertion_at g n cap a b x y h _ R (cmp_step hC K) (by omega) hlt hn
      go_wp2_with fail
      refine (hc _ _ (by omega) (by omega)).mono ?_
      rintro o w2 ⟨rfl, f2, R2, P2, S2, K2⟩
      clear hc
      have HE : Hid (StP f f2 0 n ∧ Front f2 20 n (a + 20)) := ⟨E.out.1.trans (P2.wide (by omega) (by omega) hlt), E.out.2.next (fun i hi => P2.out i (by omega)) (by omega) (by rw [show min (a + 20) n = b by omega]; exact S2)⟩
      clear P2 S2 E
      go_wp2
      go_roundw
      case rel => exact ⟨b, b + 20, f2, rfl, hlt, by first | rfl | (congr 1; omega), by first | go_num | (congr 1; omega), R2, by rw [hb]; exact HE, K.trans K2⟩
      case measure => simp [intOf]; omega
    · have hltz : ¬ (b : Int) ≤ (n : Int) := by omega
      have hc := fun x y => insertion_at g n cap a n x y h _ R (cmp_step hC K) (by omega) (Nat.le_refl _) hn
      go_wp2_with fail
      refine (hc _ _ (by omega) (by omega)).mono ?_
      rintro o w2 ⟨rfl, f2, R2, P2, S2, K2⟩
      clear hc
      have HE : Hid (StP f f2 0 n ∧ Runs f2 20 n 0) := ⟨E.out.1.trans (P2.wide (by omega) (by omega) (Nat.le_refl _)), by
        by_cases q : a < n
        · exact E.out.2 f2 (fun i hi => P2.out i (by omega)) (.more q (by rw [show min (a + 20) n = n by omega]; exact S2) (.done (by omega)))
        · exact E.out.2 f2 (fun i hi => P2.out i (by omega)) (.done (by omega))⟩
      have K3 := K.trans K2
      clear P2 S2 E R K K2
      go_wp2
      go_loopw [6, 7, 8, 9] (fun vs _ _ _ wr => ∃ (s : Nat) (h : Fn), 20 ≤ s ∧ s < 2000 ∧ vs = .int .i64 s ∧ RF ok wr g n h ∧ Hid (StP f h 0 n ∧ Runs h s n 0) ∧ Kept [g] w wr) (fun vs _ _ _ _ => n - (intOf vs).toNat)
      case atStart => exact ⟨20, f2, Nat.le_refl _, by omega, rfl, R2, HE, K3⟩
      case round =>
        clear R2 HE K3
        obtain ⟨s, h, hs1, hs2, rfl, R, E, K⟩ := hrel
        by_cases hsn : s < n
        · have hsz : (s : Int) < (n : Int) := by omega
          go_wp2
          go_loopw [7, 8] (fun va vb wr => ∃ (a b : Nat) (h : Fn), b = a + 2 * s ∧ a ≤ n ∧ va = .int .i64 a ∧ vb = .int .i64 b ∧ RF ok wr g n h ∧ Hid (StP f h 0 n ∧ Front h (2 * s) n a ∧ Runs h s n a) ∧ Kept [g] w wr) (fun _ vb _ => n + 10000 - (intOf vb).toNat)
          case atStart => exact ⟨0, 2 * s, h, by omega, Nat.zero_le _, rfl, by first | rfl | go_num | (congr 1; omega), R, ⟨E.out.1, Front.start _ _ _, E.out.2⟩, K⟩
          case round =>
            clear R E K
            obtain ⟨a, b, h, hb, han, rfl, rfl, R, E, K⟩ := hrel
            by_cases hlt : b ≤ n
            · have hltz : (b : Int) ≤ (n : Int) := by omega
              have r1 := E.out.2.2.head (by omega)
              have r2 := r1.2.head (by omega)
              have hc := fun x y z => (sym_all (b - a)).at g n cap a (a + s) b x y z h _ (Nat.le_refl _) R (cmp_step hC K) (by omega) (by omega) hlt hn (by have := r1.1; rwa [show min (a + s) n = a + s by omega] at this) (by have := r2.1; rwa [show min (a + s + s) n = b by omega] at this)
              go_wp2_with fail
              refine (hc _ _ _ (by omega) (by omega) (by omega)).mono ?_
              rintro o w2 ⟨rfl, f2, R2, P2, S2, K2⟩
              clear hc
              have HE : Hid (StP f f2 0 n ∧ Front f2 (2 * s) n (a + 2 * s) ∧ Runs f2 s n (a + 2 * s)) := ⟨E.out.1.trans (P2.wide (by omega) (by omega) hlt), E.out.2.1.next (fun i hi => P2.out i (by omega)) (by omega) (by rw [show min (a + 2 * s) n = b by omega]; exact S2), by
                have := r2.2; rw [show a + s + s = a + 2 * s by omega] at this
                exact this.congr (fun i hi _ => P2.out i (by omega))⟩
              have K3 := K.trans K2
              clear P2 S2 E r1 r2 K K2
              go_wp2
              go_roundw
              case rel => exact ⟨b, b + 2 * s, f2, rfl, hlt, by first | rfl | (congr 1; omega), by first | go_num | (congr 1; omega), R2, by rw [hb]; exact HE, K3⟩
              case measure => simp [intOf]; omega
            · have hltz : ¬ (b : Int) ≤ (n : Int) := by omega
              by_cases hm : a + s < n
              · have hmz : (a : Int) + (s : Int) < (n : Int) := by omega
                have r1 := E.out.2.2.head (by omega)
                have r2 := r1.2.head (by omega)
                have hc := fun x y z => (sym_all (n - a)).at g n cap a (a + s) n x y z h _ (Nat.le_refl _) R (cmp_step hC K) (by omega) (by omega) (Nat.le_refl _) hn (by have := r1.1; rwa [show min (a + s) n = a + s by omega] at this) (by have := r2.1; rwa [show min (a + s + s) n = n by omega] at this)
                go_wp2_with fail
                refine (hc _ _ _ (by omega) (by omega) (by omega)).mono ?_
                rintro o w2 ⟨rfl, f2, R2, P2, S2, K2⟩
                clear hc
                have HE : Hid (StP f f2 0 n ∧ Runs f2 (s * 2) n 0) := ⟨E.out.1.trans (P2.wide (by omega) (by omega) (Nat.le_refl _)), by
                  rw [Nat.mul_comm]
                  exact E.out.2.1 f2 (fun i hi => P2.out i (by omega)) (.more (by omega) (by rw [show min (a + 2 * s) n = n by omega]; exact S2) (.done (by omega)))⟩
                have K3 := K.trans K2
                clear P2 S2 E r1 r2 K K2
                go_wp2
                go_roundw
                case rel => exact ⟨s * 2, f2, by omega, by omega, by first | go_num | (congr 1; omega), R2, HE, K3⟩
                case measure => simp [intOf]; omega
              · have hmz : ¬ (a : Int) + (s : Int) < (n : Int) := by omega
                have HE : Hid (StP f h 0 n ∧ Runs h (s * 2) n 0) := ⟨E.out.1, by
                  rw [Nat.mul_comm]
                  by_cases q : a < n
                  · refine E.out.2.1 h (fun i hi => rfl) (.more q ?_ (.done (by omega)))
                    have := (E.out.2.2.head q).1
                    rw [show min (a + s) n = n by omega] at this
                    rw [show min (a + 2 * s) n = n by omega]; exact this
                  · exact E.out.2.1 h (fun i hi => rfl) (.done (by omega))⟩
                clear E
                go_wp2
                go_roundw
                case rel => exact ⟨s * 2, h, by omega, by omega, by first | go_num | (congr 1; omega), R, HE, K⟩
                case measure => simp [intOf]; omega
        · have hsz : ¬ (s : Int) < (n : Int) := by omega
          go_wp2
          go_end0
          exact ⟨rfl, h, R, E.out.1, E.out.2.all (by omega), K⟩
theorem sortStable_any (g n cap : Nat) (f : Fn) (w : World) (hR : RF ok w g n f) (hC : Hid (Cmp ok w g L)) (hn : n ≤ 1000) :
    Calls Try.prog 25 #[.slice (some ⟨g, 0, none⟩) n cap, .func (.func 26) #[] #[.pointer (some ⟨L, 0, none⟩)]] w fun o w' => o = .returned (.tuple #[]) ∧ ∃ f', RF ok w' g n f' ∧ StP f f' 0 n ∧ Sor f' 0 n ∧ Kept [g] w w' := by
  have hc := stable_any g n cap f w hR hC hn
  go_enter Try.func25, Try.ntmps25
  go_wp2_with fail
  refine hc.mono ?_
  rintro o w2 ⟨rfl, f2, R2, P2, S2, K2⟩
  go_wp2
  go_end0
  exact ⟨rfl, f2, R2, P2, S2, K2⟩
end Go.Proofs.Ytlmkcakmeldfeaa.I
