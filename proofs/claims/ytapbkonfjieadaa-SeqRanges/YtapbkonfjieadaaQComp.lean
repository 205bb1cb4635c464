/-
  The contract of the library's CompactFunc at pairs; the map with any pairs (Of).
-/
import Derived.Test.YtapbkonfjieadaaQOf
namespace Go.Proofs.Ytapbkonfjieadaa.Q
set_option maxRecDepth 100000
open Go.RowKit
open Go.Deep
theorem zero_pair (w : World) : (zeroValue 52).run Try.prog w = .ok (.agg #[.int .u64 0, .int .u64 0]) w := Try.zeroValue52 w
theorem clear_row (g n k cap : Nat) (f : Fn) (W : World) (h : RF W g n f) (hk : k < n) : ∃ w1, (∀ ty, (Builtin.clear_ #[24] ty #[.slice (some ⟨g, k * 2, none⟩) (n - k) cap]).run Try.prog W = .ok (.tuple #[]) w1) ∧ RF w1 g k f ∧ Kept [g] W w1 := by
  obtain ⟨cur, hg, hc⟩ := h
  have hsz : n * 2 ≤ cur.size := by
    have := (Array.getElem?_eq_some_iff.1 (hc (n - 1) (by omega)).2).1
    omega
  obtain ⟨z, hz⟩ : ∃ z, z = (Builtin.zeroCells #[.int .u64 0, .int .u64 0] (n - k)).toList := ⟨_, rfl⟩
  have hl : z.length = (n - k) * 2 := by rw [hz]; simp [Builtin.zeroCells]
  have h1 : ∀ v ∈ z, v.oneCell' = true := by
    intro v hv
    rw [hz] at hv
    simp [Builtin.zeroCells] at hv
    obtain ⟨i, hi, rfl⟩ := hv
    have : i % 2 = 0 ∨ i % 2 = 1 := by omega
    rcases this with e | e <;> rw [e] <;> rfl
  have hrun := run_storeCells_at (P := Try.prog) g (k * 2) 52 z 0 cur W hg (by rw [hl]; omega) h1
  refine ⟨W.setRow g (cur.toList.take (k * 2 + 0) ++ z ++ cur.toList.drop (k * 2 + 0 + z.length)).toArray, fun ty => ?_, ?_, ?_⟩
  · obtain ⟨nk, hnk⟩ : ∃ nk, n - k = nk + 1 := ⟨n - k - 1, by omega⟩
    rw [hnk] at hz ⊢
    have hu := run_underlying (P := Try.prog) Try.underlying24
    have hzv := zero_pair
    simp [Builtin.clear_, hu, hzv, Value.cells, ← hz, hrun, Result.andThen]
  · refine ⟨_, setRow_heap W g cur _ _ _ hg, fun i hi => ?_⟩
    have := hc i (by omega)
    constructor
    · rw [List.getElem?_toArray, Nat.add_zero, List.append_assoc, List.getElem?_append_left (by simp; omega), List.getElem?_take, if_pos (by omega), Array.getElem?_toList]; exact this.1
    · rw [List.getElem?_toArray, Nat.add_zero, List.append_assoc, List.getElem?_append_left (by simp; omega), List.getElem?_take, if_pos (by omega), Array.getElem?_toList]; exact this.2
  · exact ⟨rfl, rfl, rfl, by simp, fun j hj hn => setRow_other W g j _ (by simpa using hn)⟩
theorem seg_getD (f : Fn) {n i : Nat} (h : i < n) : (seg f 0 n).getD i default = f i := by rw [seg_range]; simp [h]
theorem same_kw {w : World} (x y : Pr) (c : Bool) (hc : c = (x.k == y.k)) : Hid (∀ p : KW w, Calls Try.prog 27 #[.agg #[.int .u64 x.k, .int .u64 x.v], .agg #[.int .u64 y.k, .int .u64 y.v]] p.val fun e w'' => e = .returned (.bool c) ∧ ∃ q : KW w, w'' = q.val) :=
  fun p => by subst hc; exact Calls.kw_of (sameKey_any x y p.val)
/-- What is kept of the first t places lies at the row's begin; from t - 1 on it is as it was. -/
def Cmp (f h : Fn) (t k : Nat) : Prop := k = (kp f t).length ∧ (∀ i, i < k → h i = (kp f t).getD i default) ∧ ∀ i, t - 1 ≤ i → h i = f i
theorem getD_left {a b : List Pr} {i : Nat} (h : i < a.length) : (a ++ b).getD i default = a.getD i default := by simp [List.getElem?_append_left h]
theorem Cmp.skip {f h : Fn} {t k : Nat} (c : Cmp f h t k) (ht : 0 < t) (e : (f t).k = (f (t - 1)).k) : Cmp f h (t + 1) k := by
  have hb : kpB f t = false := by unfold kpB; simp [e]; omega
  have hk : kp f (t + 1) = kp f t := by rw [kp_succ, hb]; simp
  unfold Cmp; rw [hk]
  exact ⟨c.1, c.2.1, fun i hi => c.2.2 i (by omega)⟩
theorem Cmp.keep {f h : Fn} {t k : Nat} (c : Cmp f h t k) (hk : k < t) (e : ¬ (f t).k = (f (t - 1)).k) : Cmp f (upd h k (f t)) (t + 1) (k + 1) := by
  have hb : kpB f t = true := by unfold kpB; simp [e]
  have hk2 : kp f (t + 1) = kp f t ++ [f t] := by rw [kp_succ, hb]; simp
  unfold Cmp; rw [hk2]
  refine ⟨by rw [List.length_append, c.1]; rfl, fun i hi => ?_, fun i hi => ?_⟩
  · unfold upd
    by_cases q : i = k
    · subst q; rw [if_pos rfl, c.1]; simp
    · rw [if_neg q, getD_left (by rw [← c.1]; omega)]; exact c.2.1 i (by omega)
  · unfold upd; rw [if_neg (by omega)]; exact c.2.2 i (by omega)
set_option maxHeartbeats 4000000 in
theorem compact_any (g n cap : Nat) (f : Fn) (w : World) (hR : RF w g n f) (hn : n ≤ 1000) (hc : n ≤ cap) :
    Calls Try.prog 26 #[.slice (some ⟨g, 0, none⟩) n cap, .func (.func 27) #[] #[]] w fun o w' => ∃ m, o = .returned (.slice (some ⟨g, 0, none⟩) m cap) ∧ m = (kp f n).length ∧ SlP w' (some ⟨g, 0, none⟩) (kp f n) ∧ Kept [g] w w' := by
  by_cases h2 : n < 2
  · have e : kp f n = seg f 0 n := kp_all (fun i h3 h4 => by omega)
    go_enter Try.func26, Try.ntmps26
    go_wp2
    go_ret
    rw [e]
    exact ⟨n, rfl, by rw [seg_len]; omega, hR.sl (by rw [seg_len]; omega) (fun i hi => by rw [seg_len] at hi; exact (seg_getD f (by omega)).symm), Kept.refl _ _⟩
  · have h2z : ¬ (n : Int) < 2 := by omega
    have h2d : decide ((n : Int) < 2) = false := decide_eq_false h2z
    go_enter Try.func26, Try.ntmps26
    go_wp2
    go_loopw [5] (fun vk wr => ∃ k : Nat, 1 ≤ k ∧ k ≤ n ∧ vk = .int .i64 k ∧ RF wr g n f ∧ Hid (∀ i, 0 < i → i < k → ¬ (f i).k = (f (i - 1)).k) ∧ Kept [g] w wr) (fun vk _ => n - (intOf vk).toNat)
    case atStart => exact ⟨1, Nat.le_refl _, by omega, rfl, hR, (fun i h3 h4 => by omega), Kept.refl _ _⟩
    case round =>
      obtain ⟨k0, hk1, hkn, rfl, R, D, K⟩ := hrel
      by_cases hlt : k0 < n
      · obtain ⟨kp', rfl⟩ : ∃ q, k0 = q + 1 := ⟨k0 - 1, by omega⟩
        have hltz : (kp' : Int) + 1 < (n : Int) := by omega
        obtain ⟨x, hx⟩ : ∃ x, f (kp' + 1) = x := ⟨_, rfl⟩
        obtain ⟨y, hy⟩ : ∃ y, f kp' = y := ⟨_, rfl⟩
        have a0 := R.c0 (i := kp' + 1) (by omega)
        have a1 := R.c1 (i := kp' + 1) (by omega)
        have b0 := R.c0 (i := kp') (by omega)
        have b1 := R.c1 (i := kp') (by omega)
        rw [hx] at a0 a1
        rw [hy] at b0 b1
        have A0 : ∀ p : KW wr, p.val.cell? ⟨g, (kp' + 1) * 2, none⟩ = some (.int .u64 x.k) := KW.cell a0
        have A1 : ∀ p : KW wr, p.val.cell? ⟨g, (kp' + 1) * 2 + 1, none⟩ = some (.int .u64 x.v) := KW.cell a1
        have B0 : ∀ p : KW wr, p.val.cell? ⟨g, kp' * 2, none⟩ = some (.int .u64 y.k) := KW.cell b0
        have B1 : ∀ p : KW wr, p.val.cell? ⟨g, kp' * 2 + 1, none⟩ = some (.int .u64 y.v) := KW.cell b1
        have z1 : (kp' : Int) + 1 < (n : Int) := by omega
        have z0 : (kp' : Int) < (n : Int) := by omega
        have z3 : (0 : Int) ≤ (kp' : Int) + 1 := by omega
        have e3 : ((kp' : Int) + 1).toNat = kp' + 1 := by omega
        obtain ⟨c, hc'⟩ : ∃ c, c = (x.k == y.k) := ⟨_, rfl⟩
        have HC := same_kw (w := wr) x y c hc'
        by_cases hs : x.k = y.k
        · obtain rfl : c = true := by rw [hc']; simpa using hs
          clear hc'
          have HS : Hid _ := hs
          clear hs
          go_wp2_with fail
          refine wp_region_kept (by kernel_rfl) (by kernel_rfl) ?_
          repeat (first
            | go_big_quiet_step ((first | (go_at_call 27; exact HC.out _)))
            | quiet_step ((first | (go_at_call 27; exact HC.out _))))
          refine wpQuiet_nil ?_
          intro _ hw'
          obtain ⟨pq, hw''⟩ := hw'
          subst hw''
          have R2 := R.new pq.kept
          have K2 := Kept.of_kw K pq
          have C0 : Hid (Cmp f f (kp' + 2) (kp' + 1)) := by
            have e1 : kp f (kp' + 1) = seg f 0 (kp' + 1) := kp_all D.out
            have c0 : Cmp f f (kp' + 1) (kp' + 1) := ⟨by rw [e1, seg_len]; omega, fun i hi => by rw [e1]; exact (seg_getD f hi).symm, fun i _ => rfl⟩
            exact c0.skip (by omega) (by rw [Nat.add_sub_cancel, hx, hy]; exact HS.out)
          clear A0 A1 B0 B1 HC R K a0 a1 b0 b1 hx hy
          generalize pq.val = W at R2 K2 ⊢
          clear pq
          have g1 : ¬ cap - (kp' + 1) = 0 := by omega
          have g2 : (kp' : Int) + 1 ≤ (n : Int) := by omega
          go_wp2
          obtain ⟨L, hL⟩ : ∃ L, L = n - (kp' + 1) := ⟨_, rfl⟩
          rw [← hL]
          have hLn : kp' + 1 + L = n := by omega
          clear hL
          go_loopw [5, 7] (fun vk vj wr => ∃ (k j : Nat) (h : Fn), j + 1 ≤ L ∧ k < kp' + 1 + (j + 1) ∧ vk = .int .i64 k ∧ vj = .int .i64 ((j + 1 : Nat) : Int) ∧ RF wr g n h ∧ Hid (Cmp f h (kp' + 1 + (j + 1)) k) ∧ Kept [g] w wr) (fun _ vj _ => L - (intOf vj).toNat)
          case atStart => exact ⟨kp' + 1, 0, f, by omega, by omega, rfl, rfl, R2, C0, K2⟩
          case round =>
            clear R2 C0 K2
            obtain ⟨k, j, h, hjL, hkt, rfl, rfl, R, C, K⟩ := hrel
            by_cases hlt2 : j + 1 < L
            · have hl2 : (j : Int) + 1 < (L : Int) := by omega
              obtain ⟨x, hx⟩ : ∃ x, h (kp' + 1 + (j + 1)) = x := ⟨_, rfl⟩
              obtain ⟨y, hy⟩ : ∃ y, h (kp' + 1 + j) = y := ⟨_, rfl⟩
              have a0 := R.c0 (i := kp' + 1 + (j + 1)) (by omega)
              have a1 := R.c1 (i := kp' + 1 + (j + 1)) (by omega)
              have b0 := R.c0 (i := kp' + 1 + j) (by omega)
              have b1 := R.c1 (i := kp' + 1 + j) (by omega)
              rw [hx, Nat.add_mul (kp' + 1)] at a0 a1
              rw [hy, Nat.add_mul (kp' + 1)] at b0 b1
              have fx : f (kp' + 1 + (j + 1)) = x := by rw [← hx]; exact (C.out.2.2 _ (by omega)).symm
              have fy : f (kp' + 1 + j) = y := by rw [← hy]; exact (C.out.2.2 _ (by omega)).symm
              have FX : Hid (f (kp' + 1 + (j + 1)) = x ∧ f (kp' + 1 + j) = y) := ⟨fx, fy⟩
              clear hx hy fx fy
              have A0 : ∀ p : KW wr, p.val.cell? ⟨g, (kp' + 1) * 2 + (j + 1) * 2, none⟩ = some (.int .u64 x.k) := KW.cell a0
              have A1 : ∀ p : KW wr, p.val.cell? ⟨g, (kp' + 1) * 2 + (j + 1) * 2 + 1, none⟩ = some (.int .u64 x.v) := KW.cell a1
              have B0 : ∀ p : KW wr, p.val.cell? ⟨g, (kp' + 1) * 2 + j * 2, none⟩ = some (.int .u64 y.k) := KW.cell b0
              have B1 : ∀ p : KW wr, p.val.cell? ⟨g, (kp' + 1) * 2 + j * 2 + 1, none⟩ = some (.int .u64 y.v) := KW.cell b1
              have z0 : (j : Int) < (L : Int) := by omega
              have z3 : (0 : Int) ≤ (j : Int) + 1 := by omega
              have e3 : ((j : Int) + 1).toNat = j + 1 := by omega
              obtain ⟨c, hc'⟩ : ∃ c, c = (x.k == y.k) := ⟨_, rfl⟩
              have HC := same_kw (w := wr) x y c hc'
              by_cases hs : x.k = y.k
              · obtain rfl : c = true := by rw [hc']; simpa using hs
                clear hc'
                have HS : Hid _ := hs
                clear hs
                go_wp2_with fail
                refine wp_region_kept (by kernel_rfl) (by kernel_rfl) ?_
                repeat (first
                  | go_big_quiet_step ((first | (go_at_call 27; exact HC.out _)))
                  | quiet_step ((first | (go_at_call 27; exact HC.out _))))
                refine wpQuiet_nil ?_
                intro _ hw'
                obtain ⟨pq, hw''⟩ := hw'
                subst hw''
                have R3 := R.new pq.kept
                have K3 := Kept.of_kw K pq
                clear A0 A1 B0 B1 HC R K a0 a1 b0 b1
                go_wp2
                go_roundw
                case rel => exact ⟨k, j + 1, h, by omega, by omega, rfl, by go_num, R3, C.out.skip (by omega) (by rw [show kp' + 1 + (j + 1) - 1 = kp' + 1 + j by omega, FX.out.1, FX.out.2]; exact HS.out), K3⟩
                case measure => simp [intOf]; omega
              · obtain rfl : c = false := by rw [hc']; simpa using hs
                clear hc'
                have HS : Hid _ := hs
                clear hs
                go_wp2_with fail
                refine wp_region_kept (by kernel_rfl) (by kernel_rfl) ?_
                repeat (first
                  | go_big_quiet_step ((first | (go_at_call 27; exact HC.out _)))
                  | quiet_step ((first | (go_at_call 27; exact HC.out _))))
                refine wpQuiet_nil ?_
                intro _ hw'
                obtain ⟨pq, hw''⟩ := hw'
                subst hw''
                have R3 := R.new pq.kept
                have K3 := Kept.of_kw K pq
                have a0 := A0 pq
                have a1 := A1 pq
                clear A0 A1 B0 B1 HC R K b0 b1
                generalize pq.val = W2 at R3 K3 a0 a1 ⊢
                clear pq
                have c0 := R3.c0 (i := k) (by omega)
                have c1 := R3.c1 (i := k) (by omega)
                have fr := R3.free
                have zk : (k : Int) < (n : Int) := by omega
                go_wp2
                go_roundw
                case rel =>
                  refine ⟨k + 1, j + 1, upd h k x, by omega, by omega, by go_num, by go_num, ?_, ?_, ?_⟩
                  · exact R3.put (by omega) x
                  · have := C.out.keep (by omega) (by rw [show kp' + 1 + (j + 1) - 1 = kp' + 1 + j by omega, FX.out.1, FX.out.2]; exact HS.out)
                    rw [FX.out.1] at this
                    exact this
                  · exact (K3.setCell (p := ⟨g, k * 2, none⟩) (Or.inl (by simp)) _).setCell (p := ⟨g, k * 2 + 1, none⟩) (Or.inl (by simp)) _
                case measure => simp [intOf]; omega
            · have hl2 : ¬ (j : Int) + 1 < (L : Int) := by omega
              obtain ⟨w1, hcl, R1, K1⟩ := clear_row g n k (cap - k) h wr R (by omega)
              have gk : ¬ cap - k = 0 := by omega
              have zk : (k : Int) ≤ (n : Int) := by omega
              have zc : (k : Int) ≤ (cap : Int) := by omega
              have K3 := K.trans K1
              have eN : kp' + 1 + (j + 1) = n := by omega
              rw [eN] at C
              clear K1 K R
              go_wp2
              go_ret
              exact ⟨k, rfl, C.out.1, R1.sl (by rw [← C.out.1]; exact Nat.le_refl _) (fun i hi => C.out.2.1 i (by rw [C.out.1]; exact hi)), K3⟩
        · obtain rfl : c = false := by rw [hc']; simpa using hs
          clear hc'
          have HS : Hid _ := hs
          clear hs
          go_wp2_with fail
          refine wp_region_kept (by kernel_rfl) (by kernel_rfl) ?_
          repeat (first
            | go_big_quiet_step ((first | (go_at_call 27; exact HC.out _)))
            | quiet_step ((first | (go_at_call 27; exact HC.out _))))
          refine wpQuiet_nil ?_
          intro _ hw'
          obtain ⟨pq, hw''⟩ := hw'
          subst hw''
          have R2 := R.new pq.kept
          have K2 := Kept.of_kw K pq
          have HX : Hid (f (kp' + 1) = x ∧ f kp' = y) := ⟨hx, hy⟩
          clear A0 A1 B0 B1 HC R K a0 a1 b0 b1 hx hy
          go_wp2
          go_roundw
          case rel =>
            refine ⟨kp' + 1 + 1, by omega, by omega, by go_num, R2, ?_, K2⟩
            intro i h3 h4
            by_cases q : i = kp' + 1
            · subst q; rw [Nat.add_sub_cancel, HX.out.1, HX.out.2]; exact HS.out
            · exact D.out i h3 (by omega)
          case measure => simp [intOf]; omega
      · obtain rfl : k0 = n := by omega
        have e : kp f k0 = seg f 0 k0 := kp_all D.out
        go_wp2
        go_ret
        rw [e]
        exact ⟨k0, rfl, by rw [seg_len]; omega, R.sl (by rw [seg_len]; omega) (fun i hi => by rw [seg_len] at hi; exact (seg_getD f (by omega)).symm), K⟩
end Go.Proofs.Ytapbkonfjieadaa.Q
