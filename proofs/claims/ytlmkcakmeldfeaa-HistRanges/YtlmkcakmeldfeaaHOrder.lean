/-
  In which order events happened: the program's.
-/
import Derived.Test.YtlmkcakmeldfeaaHOrdM
import Derived.Test.YtlmkcakmeldfeaaHOwn
import Derived.Test.YtlmkcakmeldfeaaIStable
namespace Go.Proofs.Ytlmkcakmeldfeaa.Q
set_option maxRecDepth 100000
open Go.RowKit
open Go.Deep
theorem inan_any (x : Int) (w : World) : Calls Try.prog 48 #[.int .i64 x] w fun o w' => o = .returned (.bool false) ∧ w' = w := by
  go_enter Try.func48, Try.ntmps48
  go_wp2
  go_ret
  exact ⟨by simp, rfl⟩
theorem icmp_any (x y : Int) (w : World) : Calls Try.prog 27 #[.int .i64 x, .int .i64 y] w fun o w' => o = .returned (.int .i64 (cpI x y)) ∧ Kept [] w w' := by
  unfold cpI
  by_cases h1 : x < y
  · rw [if_pos h1]
    go_enter Try.func27, Try.ntmps27
    go_wp2_with (go_at_call 48; refine (inan_any _ _).mono ?_; rintro o w1 ⟨rfl, rfl⟩)
    go_ret
    exact ⟨rfl, Kept.refl _ _⟩
  · rw [if_neg h1]
    by_cases h2 : y < x
    · rw [if_pos h2]
      go_enter Try.func27, Try.ntmps27
      go_wp2_with (go_at_call 48; refine (inan_any _ _).mono ?_; rintro o w1 ⟨rfl, rfl⟩)
      go_ret
      exact ⟨rfl, Kept.refl _ _⟩
    · rw [if_neg h2]
      go_enter Try.func27, Try.ntmps27
      go_wp2_with (go_at_call 48; refine (inan_any _ _).mono ?_; rintro o w1 ⟨rfl, rfl⟩)
      go_ret
      exact ⟨rfl, Kept.refl _ _⟩
theorem icmp_kw {w : World} (x y c : Int) (hc : c = cpI x y) : Hid (∀ p : KW w, Calls Try.prog 27 #[.int .i64 x, .int .i64 y] p.val fun e w'' => e = .returned (.int .i64 c) ∧ ∃ q : KW w, w'' = q.val) :=
  fun p => by subst hc; exact Calls.kw_of (icmp_any x y p.val)
set_option maxHeartbeats 1000000 in
theorem closure_any (b off n cap L i j : Nat) (x y : Ev) (w : World) (hL : w.cell? ⟨L, 0, none⟩ = some (.slice (some ⟨b, off, none⟩) n cap)) (hx : w.rangeAt b (off + i * 14) (evL x)) (hy : w.rangeAt b (off + j * 14) (evL y)) (hi : i < n) (hj : j < n) :
    Calls Try.prog 26 #[.int .i64 i, .int .i64 j, .pointer (some ⟨L, 0, none⟩)] w fun o w' => o = .returned (.int .i64 (cpI x.at_ y.at_)) ∧ Kept [] w w' := by
  have c0 := rg7 hx
  have d0 := rg7 hy
  have A0 : ∀ p : KW w, p.val.cell? ⟨b, off + i * 14 + 7, none⟩ = some (.int .i64 x.at_) := KW.cell c0
  have B0 : ∀ p : KW w, p.val.cell? ⟨b, off + j * 14 + 7, none⟩ = some (.int .i64 y.at_) := KW.cell d0
  have L0 : ∀ p : KW w, p.val.cell? ⟨L, 0, none⟩ = some (.slice (some ⟨b, off, none⟩) n cap) := KW.cell hL
  clear c0 d0 hL hx hy
  obtain ⟨c, hc⟩ : ∃ c, c = cpI x.at_ y.at_ := ⟨_, rfl⟩
  have HC := icmp_kw (w := w) x.at_ y.at_ c hc
  rw [← hc]
  clear hc
  have z1 : (i : Int) < (n : Int) := by omega
  have z2 : (j : Int) < (n : Int) := by omega
  go_enter Try.func26, Try.ntmps26
  go_wp2_with fail
  refine wp_region_kept (by kernel_rfl) (by kernel_rfl) ?_
  repeat (first
    | go_big_quiet_step ((first | (go_at_call 27; exact HC.out _)))
    | quiet_step ((first | (go_at_call 27; exact HC.out _))))
  refine wpQuiet_nil ?_
  intro _ hw'
  obtain ⟨pq, hw''⟩ := hw'
  subst hw''
  have K2 := pq.kept
  clear A0 B0 L0 HC
  go_wp2
  go_ret
  exact ⟨rfl, K2⟩
theorem SlV.at {w : World} {b off : Nat} {es : List Ev} (h : SlV w (some ⟨b, off, none⟩) es) {k : Nat} (hk : k < es.length) : w.rangeAt b (off + k * 14) (evL (evAt es k)) := by
  obtain ⟨b', off', e, _, r⟩ := SlV.row h hk
  cases e; exact r
/-- The closure, wherever the events and where they lie are as they were. -/
theorem cmp_order {es : List Ev} {ao : Option Addr} {n cap g L : Nat} {w : World} (hn : n = es.length) (hs : SlV w ao es) (hL : w.heap[L]? = some (.cells #[.slice ao n cap] 27 (0, 0))) (hg : g ≠ L) (hg2 : ∀ ad, ao = some ad → 0 < es.length → ad.block ≠ g) :
    I.Cmp (okE es) w g L := by
  intro W K x y ⟨i, hi, ex⟩ ⟨j, hj, ey⟩
  have S2 : SlV W ao es := hs.kept K (fun ad e => by have := hg2 ad e (by omega); simp; omega)
  have L2 := K.blk hL (by simp; omega)
  obtain ⟨b, off, rfl, _, _⟩ := SlV.row S2 hi
  have := closure_any b off n cap L i j (evAt es i) (evAt es j) W (cell_of_blk L2 (i := 0) rfl) (SlV.at S2 hi) (SlV.at S2 hj) (by omega) (by omega)
  subst ex ey
  exact this
theorem isort_nil (L : Nat) (w : World) : Calls Try.prog 25 #[.slice none 0 0, .func (.func 26) #[] #[.pointer (some ⟨L, 0, none⟩)]] w fun o w' => o = .returned (.tuple #[]) ∧ w' = w := by
  have h1 : Calls Try.prog 60 #[.slice none 0 0, .int .i64 0, .int .i64 0, .func (.func 26) #[] #[.pointer (some ⟨L, 0, none⟩)]] w fun o w' => o = .returned (.tuple #[]) ∧ w' = w := by
    go_enter Try.func60, Try.ntmps60
    go_wp2
    go_loopw [8] (fun i wr => i = .int .i64 1 ∧ wr = w) (fun _ _ => 0)
    case atStart => exact ⟨rfl, rfl⟩
    case round =>
      obtain ⟨rfl, rfl⟩ := hrel
      go_wp2
      go_end0
      exact ⟨rfl, rfl⟩
  have h2 : Calls Try.prog 47 #[.slice none 0 0, .int .i64 0, .func (.func 26) #[] #[.pointer (some ⟨L, 0, none⟩)]] w fun o w' => o = .returned (.tuple #[]) ∧ w' = w := by
    go_enter Try.func47, Try.ntmps47
    go_wp2
    go_loopw [7, 8] (fun a b wr => a = .int .i64 0 ∧ b = .int .i64 20 ∧ wr = w) (fun _ _ _ => 0)
    case atStart => exact ⟨rfl, rfl, rfl⟩
    case round =>
      obtain ⟨rfl, rfl, rfl⟩ := hrel
      go_wp2_with fail
      refine h1.mono ?_
      rintro o w2 ⟨rfl, rfl⟩
      go_wp2
      go_loopw [6, 7, 8, 9] (fun s _ _ _ wr => s = .int .i64 20 ∧ wr = w2) (fun _ _ _ _ _ => 0)
      case atStart => exact ⟨rfl, rfl⟩
      case round =>
        obtain ⟨rfl, rfl⟩ := hrel
        go_wp2
        go_end0
        exact ⟨rfl, rfl⟩
  go_enter Try.func25, Try.ntmps25
  go_wp2_with fail
  refine h2.mono ?_
  rintro o w2 ⟨rfl, rfl⟩
  go_wp2
  go_end0
  exact ⟨rfl, rfl⟩
/-- The sort of an owned row of places. -/
theorem isort_any {es : List Ev} {ao : Option Addr} {n cap L : Nat} (w : World) (base : Nat) (v : Value) (hn : n = es.length) (hs : SlV w ao es) (hL : w.heap[L]? = some (.cells #[.slice ao n cap] 27 (0, 0))) (O : OwnV 1 iC w base 3 v (hapd es es.length)) (hb : L < base) (hb2 : ∀ ad, ao = some ad → 0 < es.length → ad.block < base) (hl : n ≤ 1000) :
    Calls Try.prog 25 #[v, .func (.func 26) #[] #[.pointer (some ⟨L, 0, none⟩)]] w fun o w' => o = .returned (.tuple #[]) ∧ ∃ ord bo c', v = .slice bo ord.length c' ∧ IsOrd es ord ∧ SlI w' bo ord ∧ (bo = none → c' = 0) ∧ (∀ ad, bo = some ad → base ≤ ad.block) ∧ Kept v.ownBlock.toList w w' := by
  obtain ⟨bo, c', rfl, S, hle, hc, hown⟩ := O.shape iC_len
  have hlen := hapd_len es es.length
  cases bo with
  | none =>
    obtain rfl := hc rfl
    have h0 : (hapd es es.length).length = 0 := by omega
    have he : hapd es es.length = [] := List.eq_nil_of_length_eq_zero h0
    rw [h0]
    refine (isort_nil L w).mono ?_
    rintro o w' ⟨rfl, rfl⟩
    refine ⟨rfl, [], none, 0, rfl, ⟨fun i => ?_, List.Pairwise.nil⟩, fun h => absurd h (by simp), fun _ => rfl, by simp, Kept.refl _ _⟩
    have := @hapd_mem es es.length i
    rw [he] at this; exact this
  | some ad =>
    obtain ⟨hg, had, cur, hcur⟩ := hown ad rfl
    obtain ⟨g, off, spot⟩ := ad
    cases had
    obtain ⟨m, hm⟩ : ∃ m, m = (hapd es es.length).length := ⟨_, rfl⟩
    rw [← hm]
    have R : I.RF (okE es) w g m (kf_ es (hapd es es.length)) := by
      refine ⟨cur, hcur, fun i hi => ?_⟩
      have hi' : i < (hapd es es.length).length := by omega
      obtain ⟨b, o, e, _, c⟩ := SlI.cell S hi'
      cases e
      rw [Nat.zero_add] at c
      refine ⟨?_, ⟨(hapd es es.length).getD i 0, ?_, rfl⟩⟩
      · simp only [World.cell?, hcur] at c
        exact c
      · have : (hapd es es.length).getD i 0 ∈ hapd es es.length := by simp [hi']
        exact (hapd_mem.1 this).1
    have C : Hid (I.Cmp (okE es) w g L) := cmp_order hn hs hL (by simp at hg; omega) (fun ad e h => by have := hb2 ad e h; simp at hg; omega)
    refine (I.sortStable_any g m c' (kf_ es (hapd es es.length)) w R C (by omega)).mono ?_
    rintro o w' ⟨rfl, f', R', P, SO, K⟩
    obtain ⟨ord, hord, hlen2, hf⟩ := ord_of_sort hm P SO
    refine ⟨rfl, ord, some ⟨g, 0, none⟩, c', by rw [hlen2], hord, fun h0 => ⟨g, 0, rfl, R'.lt, fun i hi j u hu => ?_⟩, by simp, fun ad e => by cases e; exact hg, K⟩
    have c := R'.c (i := i) (by omega)
    rw [hf i (by omega)] at c
    have e : ord.getD i 0 = ord[i] := by simp [hi]
    rw [e] at c
    match j, hu with
    | 0, hu =>
      simp [iC] at hu; subst hu
      simpa [kp_] using c
end Go.Proofs.Ytlmkcakmeldfeaa.Q
