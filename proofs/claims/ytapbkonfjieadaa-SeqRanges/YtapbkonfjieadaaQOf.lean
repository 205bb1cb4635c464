/-
  The contracts of the library's Clone, Reverse and CompactFunc at pairs.
-/
import Derived.Test.YtapbkonfjieadaaQStable
import Derived.Test.YtapbkonfjieadaaQMapM
namespace Go.Proofs.Ytapbkonfjieadaa.Q
set_option maxRecDepth 100000
open Go.RowKit
open Go.Deep
theorem OwnP.rf {w : World} {base : Nat} {v : Value} {es : List Pr} (h : OwnP w base 52 v es) : (v = .slice none 0 0 ∧ es = []) ∨ ∃ g cap, v = .slice (some ⟨g, 0, none⟩) es.length cap ∧ base ≤ g ∧ es.length ≤ cap ∧ RF w g es.length (fun i => es.getD i default) := by
  obtain ⟨h1, ⟨rfl, h0⟩ | ⟨g, cap, cur, rfl, hb, hg, hnc, hcm, hsz, htk⟩⟩ := h
  · exact Or.inl ⟨rfl, List.eq_nil_of_length_eq_zero h0⟩
  · refine Or.inr ⟨g, cap, rfl, hb, hnc, cur, hg, fun i hi => ?_⟩
    have e : es.getD i default = es[i] := by simp [hi]
    simp only [e]
    have q0 := fl_get es i hi 0 _ rfl
    have q1 := fl_get es i hi 1 _ rfl
    rw [← htk, List.getElem?_take] at q0 q1
    constructor
    · split at q0
      · rw [← Array.getElem?_toList]; exact q0
      · cases q0
    · split at q1
      · rw [← Array.getElem?_toList]; exact q1
      · cases q1
theorem RF.sl {w : World} {g n : Nat} {f : Fn} (h : RF w g n f) {es : List Pr} (hl : es.length ≤ n) (he : ∀ i, i < es.length → f i = es.getD i default) : SlP w (some ⟨g, 0, none⟩) es := by
  intro h0
  refine ⟨g, 0, rfl, h.lt, fun i hi j v hv => ?_⟩
  have e : es.getD i default = es[i] := by simp [hi]
  have c0 := h.c0 (i := i) (by omega)
  have c1 := h.c1 (i := i) (by omega)
  rw [he i hi, e] at c0 c1
  rw [Nat.zero_add]
  match j, hv with
  | 0, hv => cases hv; exact c0
  | 1, hv => cases hv; exact c1
theorem clone_any (ao : Option Addr) (es : List Pr) (n cap : Nat) (w : World) (hn : n = es.length) (hs : SlP w ao es) (hc : ao = none → cap = 0) (hl : n ≤ 1000) :
    Calls Try.prog 22 #[.slice ao n cap] w fun o w' => ∃ v, o = .returned v ∧ OwnP w' w.heap.size 52 v es ∧ Kept [] w w' := by
  have qn : ∀ (w : World) (a : Option Addr) (n c n' c' : Nat), (binOp .eql 24 (.slice a n c) (.slice none n' c')).run Try.prog w = .ok (.bool a.isNone) w := fun w a n c n' c' => Lib.run_eql_slice_nil w _ _ a n c n' c' Try.underlying24
  cases ao with
  | none =>
    have hy : es = [] := by
      cases es with
      | nil => rfl
      | cons a r => obtain ⟨ad, _, h, _⟩ := hs (by simp); cases h
    subst hy
    have h9 : n = 0 := hn
    subst h9
    obtain rfl := hc rfl
    clear hs hn hc
    go_enter Try.func22, Try.ntmps22
    go_wp2
    go_ret
    exact ⟨_, rfl, OwnP.nil _ _ _, Kept.refl _ _⟩
  | some ad =>
    have K : Kept [] w (w.alloc (.cells #[] 52)) := (Kept.refl _ _).alloc _
    have hown : OwnP (w.alloc (.cells #[] 52)) w.heap.size 52 (.slice (some ⟨w.heap.size, 0, none⟩) 0 0) [] := World.ownsRow_made w #[] 0 (Nat.le_refl _) (by decide) rfl
    obtain ⟨u, w1, hap, O1, K1⟩ := append_own 24 Try.underlying24 info_seq (w.alloc (.cells #[] 52)) w.heap.size _ (some ad) [] es n cap hn hown (hs.new K) (by simp) (by rw [nblk_alloc]; omega) (by simp) (by omega)
    have KK := Kept.ofOwn K hown (Nat.le_refl _) K1
    have HO : Hid _ := And.intro O1 KK
    clear O1 KK K K1 hown hn hs hc
    go_enter Try.func22, Try.ntmps22
    go_wp2_with (at_builtin; refine wpList_append_run rfl (.tmp 5) (.tmp 6) 24 rfl rfl rfl hap ?_)
    go_ret
    exact ⟨_, rfl, by have := HO.out.1; rwa [List.nil_append] at this, HO.out.2⟩
theorem reverse_nil (w : World) : Calls Try.prog 23 #[.slice none 0 0] w fun o w' => o = .returned (.tuple #[]) ∧ w' = w := by
  go_enter Try.func23, Try.ntmps23
  go_wp2
  go_loopw [2, 3] (fun i j wr => i = .int .i64 0 ∧ j = .int .i64 (-1) ∧ wr = w) (fun _ _ _ => 0)
  case atStart => exact ⟨rfl, rfl, rfl⟩
  case round =>
    obtain ⟨rfl, rfl, rfl⟩ := hrel
    go_wp2
    go_end0
    exact ⟨rfl, rfl⟩
set_option maxHeartbeats 1000000 in
theorem reverse_any (g n cap : Nat) (f : Fn) (w : World) (hR : RF w g n f) (hn : n ≤ 1000) :
    Calls Try.prog 23 #[.slice (some ⟨g, 0, none⟩) n cap] w fun o w' => o = .returned (.tuple #[]) ∧ RF w' g n (fun t => f (n - 1 - t)) ∧ Kept [g] w w' := by
  go_enter Try.func23, Try.ntmps23
  go_wp2
  go_loopw [2, 3] (fun vi vj wr => ∃ i : Nat, i ≤ n ∧ vi = .int .i64 i ∧ vj = .int .i64 ((n : Int) - 1 - (i : Int)) ∧ RF wr g n (rvs f n i) ∧ Kept [g] w wr) (fun vi _ _ => n - (intOf vi).toNat)
  case atStart => exact ⟨0, Nat.zero_le _, rfl, by first | rfl | (congr 1; omega), by rw [rvs_zero]; exact hR, Kept.refl _ _⟩
  case round =>
    obtain ⟨i, hi, rfl, rfl, R, K⟩ := hrel
    by_cases hlt : i < n - 1 - i
    · obtain ⟨j, hj⟩ : ∃ j, j = n - 1 - i := ⟨_, rfl⟩
      have ej : (n : Int) - 1 - (i : Int) = (j : Int) := by omega
      rw [ej]
      have hij : (i : Int) < (j : Int) := by omega
      obtain ⟨x, hx⟩ : ∃ x, rvs f n i i = x := ⟨_, rfl⟩
      obtain ⟨y, hy⟩ : ∃ y, rvs f n i j = y := ⟨_, rfl⟩
      have a0 := R.c0 (i := i) (by omega)
      have a1 := R.c1 (i := i) (by omega)
      have b0 := R.c0 (i := j) (by omega)
      have b1 := R.c1 (i := j) (by omega)
      rw [hx] at a0 a1
      rw [hy] at b0 b1
      have HP : Hid (rvs f n i j = y ∧ rvs f n i i = x) := ⟨hy, hx⟩
      clear hx hy
      have fr := R.free
      have n1 : ¬ i = j := by omega
      have n2 : ¬ j = i := by omega
      have n3 : ¬ i * 2 + 1 = j * 2 := by omega
      have n4 : ¬ j * 2 = i * 2 + 1 := by omega
      have n5 : ¬ i * 2 = j * 2 + 1 := by omega
      have n6 : ¬ j * 2 + 1 = i * 2 := by omega
      have z1 : (j : Int) < (n : Int) := by omega
      have z0 : (i : Int) < (n : Int) := by omega
      have HJ : Hid (j = n - 1 - i) := hj
      clear hj ej
      go_wp2_with fail
      go_region
      go_wp2
      go_roundw
      case rel =>
        have hj := HJ.out
        refine ⟨i + 1, by omega, by go_num, (by first | rfl | (congr 1; omega)), ?_, (K.trans Kept.put4).drew⟩
        have R3 := R.xch (i := i) (j := j) (by omega) (by omega) HP.out.1 HP.out.2
        rw [hj, rvs_next f (by omega), ← hj] at R3
        exact R3.drew
      case measure => have hj := HJ.out; simp [intOf]; omega
    · have hij : ¬ (i : Int) < (n : Int) - 1 - (i : Int) := by omega
      go_wp2
      go_end0
      exact ⟨rfl, R.ext (fun t ht => (rvs_end f hlt hi t ht).symm), K⟩
theorem sort_nil (w : World) : Calls Try.prog 24 #[.slice none 0 0, .func (.func 25) #[] #[]] w fun o w' => o = .returned (.tuple #[]) ∧ w' = w := by
  have h1 : Calls Try.prog 41 #[.slice none 0 0, .int .i64 0, .int .i64 0, .func (.func 25) #[] #[]] w fun o w' => o = .returned (.tuple #[]) ∧ w' = w := by
    go_enter Try.func41, Try.ntmps41
    go_wp2
    go_loopw [8] (fun i wr => i = .int .i64 1 ∧ wr = w) (fun _ _ => 0)
    case atStart => exact ⟨rfl, rfl⟩
    case round =>
      obtain ⟨rfl, rfl⟩ := hrel
      go_wp2
      go_end0
      exact ⟨rfl, rfl⟩
  have h2 : Calls Try.prog 37 #[.slice none 0 0, .int .i64 0, .func (.func 25) #[] #[]] w fun o w' => o = .returned (.tuple #[]) ∧ w' = w := by
    go_enter Try.func37, Try.ntmps37
    go_wp2
    go_loopw [7, 8] (fun a b wr => a = .int .i64 0 ∧ b = .int .i64 20 ∧ wr = w) (fun _ _ _ => 0)
    case atStart => exact ⟨rfl, rfl, rfl⟩
    case round =>
      obtain ⟨rfl, rfl, rfl⟩ := hrel
      go_wp2_with fail
      refine h1.mono ?_
      rintro o w2 ⟨rfl, rfl⟩
      go_wp2
      go_loopw [6, 7, 8, 9] (fun s _ _ _ wr => s = .int .i64 20 ∧ wr = w2) (fun _ _ _ _ _ => 0)
      case atStart => exact ⟨rfl, rfl⟩
      case round =>
        obtain ⟨rfl, rfl⟩ := hrel
        go_wp2
        go_end0
        exact ⟨rfl, rfl⟩
  clear h1
  go_enter Try.func24, Try.ntmps24
  go_wp2_with fail
  refine h2.mono ?_
  rintro o w2 ⟨rfl, rfl⟩
  go_wp2
  go_end0
  exact ⟨rfl, rfl⟩
theorem compact_nil (w : World) : Calls Try.prog 26 #[.slice none 0 0, .func (.func 27) #[] #[]] w fun o w' => o = .returned (.slice none 0 0) ∧ w' = w := by
  go_enter Try.func26, Try.ntmps26
  go_wp2
  go_ret
  exact ⟨rfl, rfl⟩
end Go.Proofs.Ytapbkonfjieadaa.Q
