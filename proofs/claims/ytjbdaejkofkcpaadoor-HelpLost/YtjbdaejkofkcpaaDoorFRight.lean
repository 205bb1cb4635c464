/-
  The document's question whether nodes may be laid.
-/
import Derived.Test.YtjbdaejkofkcpaaDoorFBeh
import Derived.Test.YtjbdaejkofkcpaaDoorKBase
import Derived.Test.YtjbdaejkofkcpaaDoorPRef
import Derived.Deep.CutRange
namespace Go.Proofs.YtjbdaejkofkcpaaDoor
open Go.RowKit (Grown Hid Below intOf)
open Go.Deep
namespace K
set_option maxRecDepth 100000
/-- The answer: just if they may. -/
def RgP (c : Cfg) (ns : List Nn) (e : Ending) (K : Prop) : Prop := ∃ B : Bool, e = .returned (.bool B) ∧ (B = true ↔ RightN c ns) ∧ K
theorem RgP.yes {c : Cfg} {ns : List Nn} {e : Ending} {K : Prop} (he : e = .returned (.bool true)) (h : RightN c ns) (k : K) : RgP c ns e K := ⟨true, he, ⟨fun _ => h, fun _ => rfl⟩, k⟩
theorem RgP.no {c : Cfg} {ns : List Nn} {e : Ending} {K : Prop} (he : e = .returned (.bool false)) (h : ¬ RightN c ns) (k : K) : RgP c ns e K := ⟨false, he, ⟨fun z => (by cases z), fun z => absurd z h⟩, k⟩
theorem rt_no {c : Cfg} {ns : List Nn} {j : Nat} (hj : j < ns.length) (h : ¬ nnB c (ns.getD j nn0)) : ¬ RightN c ns := fun r => h (r.b j hj)
set_option maxHeartbeats 8000000 in
theorem right11_any (c : Cfg) (ns : List Nn) (ao : Option Addr) (k cap : Nat) (w : World) (hs : SlOf 5 nnL w ao ns) (hk : k = ns.length) :
    Calls Tryd.prog 25 #[.agg #[.int .i64 c.t, .int .i64 c.s, .int .i64 c.c, .int .i64 c.h, .int .i64 c.k, .int .i64 c.e, .int .i64 c.l], .slice ao k cap] w fun e w' => RgP c ns e (Kept [] w w') := by
  have HS := hidOf hs
  have HK := hidOf hk
  have RG : Hid (∀ W : World, Calls Tryd.prog 33 #[.agg #[.int .i64 c.t, .int .i64 c.s, .int .i64 c.c, .int .i64 c.h, .int .i64 c.k, .int .i64 c.e, .int .i64 c.l]] W fun e w' => e = .returned (.bool (riB c)) ∧ Kept [] W w') := hidOf (fun W => rright_any c W)
  obtain ⟨q, hq⟩ : ∃ q, q = w.heap.size := ⟨_, rfl⟩
  have BX : Hid (RW 23 (w.alloc (.cells #[.int .i64 c.t, .int .i64 c.s, .int .i64 c.c, .int .i64 c.h, .int .i64 c.k, .int .i64 c.e, .int .i64 c.l] 23)) q #[.int .i64 c.t, .int .i64 c.s, .int .i64 c.c, .int .i64 c.h, .int .i64 c.k, .int .i64 c.e, .int .i64 c.l] ∧ Kept [] w (w.alloc (.cells #[.int .i64 c.t, .int .i64 c.s, .int .i64 c.c, .int .i64 c.h, .int .i64 c.k, .int .i64 c.e, .int .i64 c.l] 23))) := by rw [hq]; exact ⟨RW.new _ _ _, (Kept.refl [] w).alloc _⟩
  obtain ⟨BR, hBR⟩ : ∃ BR, riB c = BR := ⟨_, rfl⟩
  rw [hBR] at RG
  have HBR := hidOf hBR
  clear hs hk hBR
  go_enter Tryd.func25, Tryd.ntmps25
  go_upto_region 1 with (fail)
  rw [← hq]
  refine gen_world (fun W => RW 23 W q #[.int .i64 c.t, .int .i64 c.s, .int .i64 c.c, .int .i64 c.h, .int .i64 c.k, .int .i64 c.e, .int .i64 c.l] ∧ Kept [] w W) BX.out ?_
  clear BX hq
  rintro W ⟨CB0, K0⟩
  have HX := hidOf (And.intro CB0 K0)
  clear CB0 K0
  have y0 := cell_of_blk HX.out.1 (i := 0) (v := .int .i64 c.t) rfl
  have y1 := cell_of_blk HX.out.1 (i := 1) (v := .int .i64 c.s) rfl
  have y2 := cell_of_blk HX.out.1 (i := 2) (v := .int .i64 c.c) rfl
  have y3 := cell_of_blk HX.out.1 (i := 3) (v := .int .i64 c.h) rfl
  have y4 := cell_of_blk HX.out.1 (i := 4) (v := .int .i64 c.k) rfl
  have y5 := cell_of_blk HX.out.1 (i := 5) (v := .int .i64 c.e) rfl
  have y6 := cell_of_blk HX.out.1 (i := 6) (v := .int .i64 c.l) rfl
  go_wp2_with fail
  refine (RG.out W).mono ?_
  rintro e w1 ⟨rfl, K1⟩
  have HX1 := hidOf (And.intro (HX.out.1.kept K1 (by simp)) (HX.out.2.trans K1))
  clear HX K1 RG y0 y1 y2 y3 y4 y5 y6
  have HX := HX1
  clear HX1
  cases BR with
  | false =>
    go_wp2
    go_ret
    exact RgP.no rfl (fun h => by have z := h.r; rw [HBR.out] at z; cases z) HX.out.2
  | true =>
    have q2 := cell_of_blk HX.out.1 (i := 2) (v := .int .i64 c.c) rfl
    by_cases hc : c.c < (k : Int)
    · go_wp2
      go_ret
      exact RgP.no rfl (fun h => by have z := h.n; have := HK.out; omega) HX.out.2
    have HC := hidOf (show (ns.length : Int) ≤ c.c by have := HK.out; omega)
    have hc64 : (k : Int) ≤ 64 := by have := (riB_true.1 HBR.out).c1; omega
    go_wp2
    go_loopw [5] (fun s wr => ∃ j : Nat, j ≤ k ∧ s = .int .i64 j ∧ Hid (∀ i, i < j → nnB c (ns.getD i nn0)) ∧ Hid (∀ i, i + 1 < j → (ns.getD i nn0).k < (ns.getD (i + 1) nn0).k) ∧ RW 23 wr q #[.int .i64 c.t, .int .i64 c.s, .int .i64 c.c, .int .i64 c.h, .int .i64 c.k, .int .i64 c.e, .int .i64 c.l] ∧ Kept [] w wr) (fun s _ => k - (intOf s).toNat)
    case atStart => exact ⟨0, by omega, by first | rfl | go_num, hidOf (fun i h => by omega), hidOf (fun i h => by omega), HX.out.1, HX.out.2⟩
    case round =>
      clear HX q2
      obtain ⟨j, hj, rfl, HB, HU, CB0, K0⟩ := hrel
      have HX := hidOf (And.intro CB0 K0)
      have c3 := cell_of_blk CB0 (i := 3) (v := .int .i64 c.h) rfl
      clear CB0 K0
      by_cases hlt : j < k
      · have hltz : (j : Int) < (k : Int) := by omega
        obtain ⟨b1, o1, e1, l1, s0, s1, s2, s3, s4⟩ := nn_row (HS.out.new HX.out.2) (k := j) (by rw [← HK.out]; exact hlt)
        obtain ⟨x, hx⟩ : ∃ x, x = ns.getD j nn0 := ⟨_, rfl⟩
        rw [← hx] at s0 s1 s2 s3 s4
        have HXE := hidOf hx
        clear hx
        rw [e1]
        go_upto_region 6 with (fail)
        go_cut [82] from 16 to 98 (fun s82 V => ∃ B : Bool, s82 = .bool B ∧ (B = true ↔ ¬ nnB c x) ∧ RW 23 V q #[.int .i64 c.t, .int .i64 c.s, .int .i64 c.c, .int .i64 c.h, .int .i64 c.k, .int .i64 c.e, .int .i64 c.l] ∧ Kept [] w V)
        case first =>
          clear s0
          by_cases h1 : x.t < 1
          · have d1 : decide (x.t < 1) = true := by simpa using h1
            go_quiet (fail)
            go_wp2
            go_meet
            case rel => exact ⟨true, rfl, ⟨fun _ => (by unfold nnB; omega), fun _ => rfl⟩, by first | exact HX.out.1 | exact HX.out.1.drew | (exact HX.out.1.kept ((Kept.refl [] _).drewN _) (by simp)), by first | exact HX.out.2 | exact HX.out.2.drew | exact HX.out.2.drewN _⟩
          have d1 : decide (x.t < 1) = false := by simpa using h1
          by_cases h2 : c.h < x.t
          · have d2 : decide (c.h < x.t) = true := by simpa using h2
            go_quiet (fail)
            go_wp2
            go_meet
            case rel => exact ⟨true, rfl, ⟨fun _ => (by unfold nnB; omega), fun _ => rfl⟩, by first | exact HX.out.1 | exact HX.out.1.drew | (exact HX.out.1.kept ((Kept.refl [] _).drewN _) (by simp)), by first | exact HX.out.2 | exact HX.out.2.drew | exact HX.out.2.drewN _⟩
          have d2 : decide (c.h < x.t) = false := by simpa using h2
          by_cases h3 : x.m < 0
          · have d3 : decide (x.m < 0) = true := by simpa using h3
            go_quiet (fail)
            go_wp2
            go_meet
            case rel => exact ⟨true, rfl, ⟨fun _ => (by unfold nnB; omega), fun _ => rfl⟩, by first | exact HX.out.1 | exact HX.out.1.drew | (exact HX.out.1.kept ((Kept.refl [] _).drewN _) (by simp)), by first | exact HX.out.2 | exact HX.out.2.drew | exact HX.out.2.drewN _⟩
          have d3 : decide (x.m < 0) = false := by simpa using h3
          by_cases h4 : x.t < x.m
          · have d4 : decide (x.t < x.m) = true := by simpa using h4
            go_quiet (fail)
            go_wp2
            go_meet
            case rel => exact ⟨true, rfl, ⟨fun _ => (by unfold nnB; omega), fun _ => rfl⟩, by first | exact HX.out.1 | exact HX.out.1.drew | (exact HX.out.1.kept ((Kept.refl [] _).drewN _) (by simp)), by first | exact HX.out.2 | exact HX.out.2.drew | exact HX.out.2.drewN _⟩
          have d4 : decide (x.t < x.m) = false := by simpa using h4
          by_cases h5 : 0 < x.m
          · have d5 : decide (0 < x.m) = true := by simpa using h5
            cases hd : x.d with
            | false =>
              rw [hd] at s4
              go_quiet (fail)
              go_wp2
              go_meet
              case rel => exact ⟨true, rfl, ⟨fun _ => (by unfold nnB; rw [hd]; intro h; have := h.2.2.2.2.1 (by omega); cases this), fun _ => rfl⟩, by first | exact HX.out.1 | exact HX.out.1.drew | (exact HX.out.1.kept ((Kept.refl [] _).drewN _) (by simp)), by first | exact HX.out.2 | exact HX.out.2.drew | exact HX.out.2.drewN _⟩
            | true =>
              rw [hd] at s4
              by_cases h6 : 9223372036854775808 ≤ x.v
              · have d6 : decide ((9223372036854775808 : Int) ≤ x.v) = true := by simpa using h6
                go_quiet (fail)
                go_wp2
                go_meet
                case rel => exact ⟨true, rfl, ⟨fun _ => (by unfold nnB; omega), fun _ => rfl⟩, by first | exact HX.out.1 | exact HX.out.1.drew | (exact HX.out.1.kept ((Kept.refl [] _).drewN _) (by simp)), by first | exact HX.out.2 | exact HX.out.2.drew | exact HX.out.2.drewN _⟩
              · have d6 : decide ((9223372036854775808 : Int) ≤ x.v) = false := by simpa using h6
                go_quiet (fail)
                go_wp2
                go_meet
                case rel => exact ⟨false, rfl, ⟨fun h => absurd h (by decide), fun h => absurd (show nnB c x from ⟨by omega, by omega, by omega, by omega, fun _ => hd, by omega⟩) h⟩, by first | exact HX.out.1 | exact HX.out.1.drew | (exact HX.out.1.kept ((Kept.refl [] _).drewN _) (by simp)), by first | exact HX.out.2 | exact HX.out.2.drew | exact HX.out.2.drewN _⟩
          · have d5 : decide (0 < x.m) = false := by simpa using h5
            by_cases h6 : 9223372036854775808 ≤ x.v
            · have d6 : decide ((9223372036854775808 : Int) ≤ x.v) = true := by simpa using h6
              go_quiet (fail)
              go_wp2
              go_meet
              case rel => exact ⟨true, rfl, ⟨fun _ => (by unfold nnB; omega), fun _ => rfl⟩, by first | exact HX.out.1 | exact HX.out.1.drew | (exact HX.out.1.kept ((Kept.refl [] _).drewN _) (by simp)), by first | exact HX.out.2 | exact HX.out.2.drew | exact HX.out.2.drewN _⟩
            · have d6 : decide ((9223372036854775808 : Int) ≤ x.v) = false := by simpa using h6
              go_quiet (fail)
              go_wp2
              go_meet
              case rel => exact ⟨false, rfl, ⟨fun h => absurd h (by decide), fun h => absurd (show nnB c x from ⟨by omega, by omega, by omega, by omega, fun h2 => by omega, by omega⟩) h⟩, by first | exact HX.out.1 | exact HX.out.1.drew | (exact HX.out.1.kept ((Kept.refl [] _).drewN _) (by simp)), by first | exact HX.out.2 | exact HX.out.2.drew | exact HX.out.2.drewN _⟩
        case rest =>
          obtain ⟨B, rfl, hB, CB0, K0⟩ := hcut
          have HX1 := hidOf (And.intro CB0 K0)
          have HBB := hidOf hB
          clear HX c3 s0 s1 s2 s3 s4 CB0 K0 hB l1
          have HX := HX1
          clear HX1
          cases B with
          | true =>
            go_wp2
            go_ret
            exact RgP.no rfl (by have z := HBB.out.1 (by simp); rw [HXE.out] at z; exact rt_no (by rw [← HK.out]; exact hlt) z) HX.out.2
          | false =>
            have HG := hidOf (show nnB c x from Classical.byContradiction fun h => by have z := HBB.out.2 h; cases z)
            clear HBB
            obtain ⟨b2, o2, e2, l2, s0, s1, s2, s3, s4⟩ := nn_row (HS.out.new HX.out.2) (k := j) (by rw [← HK.out]; exact hlt)
            rw [e1] at e2
            obtain ⟨rfl, rfl⟩ : b1 = b2 ∧ o1 = o2 := by simpa using e2
            rw [← HXE.out] at s0
            clear s1 s2 s3 s4 e2
            have HNB : Hid (∀ i, i < j + 1 → nnB c (ns.getD i nn0)) := hidOf (fun i hi => by
              by_cases e : i = j
              · rw [e, ← HXE.out]; exact HG.out
              · exact HB.out i (by omega))
            by_cases hj0 : j = 0
            · have HNU : Hid (∀ i, i + 1 < j + 1 → (ns.getD i nn0).k < (ns.getD (i + 1) nn0).k) := hidOf (fun i hi => by omega)
              have d0 : decide ((0 : Int) < j) = false := by simp; omega
              have hj0z : ((j : Int)) = 0 := by omega
              go_wp2_with fail
              go_quiet (fail)
              go_wp2
              go_roundw
              case rel => exact ⟨j + 1, by omega, by go_num, HNB, HNU, by first | exact HX.out.1 | exact HX.out.1.drew | (exact HX.out.1.kept ((Kept.refl [] _).drewN _) (by simp)), by first | exact HX.out.2 | exact HX.out.2.drew | exact HX.out.2.drewN _⟩
              case measure => simp [intOf]; omega
            · obtain ⟨p, hp⟩ : ∃ p, j = p + 1 := ⟨j - 1, by omega⟩
              obtain ⟨b3, o3, e3, l3, t0, t1, t2, t3, t4⟩ := nn_row (HS.out.new HX.out.2) (k := p) (by have := HK.out; omega)
              rw [e1] at e3
              obtain ⟨rfl, rfl⟩ : b1 = b3 ∧ o1 = o3 := by simpa using e3
              clear t1 t2 t3 t4 e3
              obtain ⟨y, hy⟩ : ∃ y, y = ns.getD p nn0 := ⟨_, rfl⟩
              rw [← hy] at t0
              have HYE := hidOf hy
              have HP := hidOf hp
              have hpz : (j : Int) - 1 = p := by omega
              have d0 : decide ((0 : Int) < j) = true := by simp; omega
              have dN : decide (0 < j) = true := by simp; omega
              have pN : 0 < j := by omega
              have hwz : IntKind.i64.wrap ((j : Int) - 1) = p := by rw [IntKind.wrap_i64]; omega
              have i0 : (0 : Int) ≤ (j : Int) - 1 := by omega
              have i1 : (j : Int) - 1 < k := by omega
              clear hy hp hj0
              by_cases hk2 : x.k ≤ y.k
              · have d1 : decide (x.k ≤ y.k) = true := by simpa using hk2
                go_wp2_with fail
                go_quiet (fail)
                go_wp2
                go_ret
                exact RgP.no rfl (fun h => by have z := h.up p (by have := HK.out; have := HP.out; omega); rw [← HYE.out, ← HP.out, ← HXE.out] at z; omega) (by first | exact HX.out.2 | exact HX.out.2.drew | exact HX.out.2.drewN _)
              · have d1 : decide (x.k ≤ y.k) = false := by simpa using hk2
                have HNU : Hid (∀ i, i + 1 < j + 1 → (ns.getD i nn0).k < (ns.getD (i + 1) nn0).k) := hidOf (fun i hi => by
                  by_cases e : i = p
                  · rw [e, ← HYE.out, ← HP.out, ← HXE.out]; omega
                  · exact HU.out i (by have := HP.out; omega))
                go_wp2_with fail
                go_quiet (fail)
                go_wp2
                go_roundw
                case rel => exact ⟨j + 1, by omega, by go_num, HNB, HNU, by first | exact HX.out.1 | exact HX.out.1.drew | (exact HX.out.1.kept ((Kept.refl [] _).drewN _) (by simp)), by first | exact HX.out.2 | exact HX.out.2.drew | exact HX.out.2.drewN _⟩
                case measure => simp [intOf]; omega
      · have hje : j = k := by omega
        have hjz : ¬ (j : Int) < (k : Int) := by omega
        have HY := hidOf (show RightN c ns from ⟨HBR.out, HC.out, fun i hi => HB.out i (by have := HK.out; omega), fun i hi => HU.out i (by have := HK.out; omega)⟩)
        clear hje
        go_wp2
        go_ret
        exact RgP.yes rfl HY.out HX.out.2
end K
end Go.Proofs.YtjbdaejkofkcpaaDoor
