/-
  The contract of the document's own list of places: where a configuration is right, the place of each cell, in order.
-/
import Derived.Test.YtgbgaphmoemokaaDoorPRef
import Derived.Test.YtgbgaphmoemokaaDoorGrow
import Derived.Deep.Cut
namespace Go.Proofs.YtgbgaphmoemokaaDoor
open Go.ChangeShapes Go.WideShapes Go.ChangeAt Go.RowKit
open Go.Deep
def Plc.cells (p : Plc) : List Value := [.int .i64 p.k, .int .i64 p.a, .int .i64 p.b]
def pls (c : Cfg) (n : Nat) : List Value := (List.range n).flatMap fun (i : Nat) => (whV c (i : Int)).cells
theorem pls_succ (c : Cfg) (n : Nat) : pls c (n + 1) = pls c n ++ (whV c (n : Int)).cells := by
  simp [pls, List.range_succ, List.flatMap_append]
theorem pls_len (c : Cfg) (n : Nat) : (pls c n).length = n * 3 := by
  induction n with
  | zero => rfl
  | succ n ih => rw [pls_succ, List.length_append, ih]; simp [Plc.cells]; omega
theorem pls_get (c : Cfg) (n i j : Nat) (hi : i < n) (hj : j < 3) : (pls c n)[i * 3 + j]? = (whV c (i : Int)).cells[j]? := by
  induction n with
  | zero => omega
  | succ n ih =>
    rw [pls_succ]
    by_cases h : i < n
    · rw [List.getElem?_append_left (by rw [pls_len]; omega)]; exact ih h
    · have : i = n := by omega
      subst this
      rw [List.getElem?_append_right (by rw [pls_len]; omega), pls_len]
      congr 1; omega
theorem info_place : (Tryd.prog.info? 32).map (fun i => (i.zero, i.size, i.bytes)) = some (some (.agg #[.int .i64 0, .int .i64 0, .int .i64 0]), 3, 24) := by kernel_rfl
theorem plc_one (p : Plc) : ∀ u ∈ p.cells, u.oneCell' = true := by
  intro u hu; simp [Plc.cells] at hu; rcases hu with rfl | rfl | rfl <;> rfl
theorem append_plc (ty : TypeId) (c : Cfg) (w : World) (base g m cap : Nat) (k a b : Int) (hR : RowG w g 32 3 (pls c m) cap) (hp : whV c (m : Int) = ⟨k, a, b⟩) (hb : base ≤ g) (hm : m ≤ 1000) :
    ∃ g' cap' w1, (Builtin.append_ #[37, 37] ty #[.slice (some ⟨g, 0, none⟩) m cap, .slice (some ⟨w.heap.size, 0, none⟩) 1 1]).run Tryd.prog (w.alloc (.cells #[.int .i64 k, .int .i64 a, .int .i64 b] 32)) = .ok (.slice (some ⟨g', 0, none⟩) (m + 1) cap') w1 ∧ base ≤ g' ∧ RowG w1 g' 32 3 (pls c (m + 1)) cap' ∧ Kept [g] w w1 := by
  have h := append_one (P := Tryd.prog) (ty := ty) Tryd.underlying37 info_place rfl (by decide) w base g m cap (pls c m) (Plc.cells ⟨k, a, b⟩) hR (pls_len c m) rfl (plc_one _) hb (by unfold maxLen; omega) (by omega)
  rw [pls_succ, hp]
  exact h
set_option maxRecDepth 100000 in
theorem places_no (c : Cfg) (w : World) (hr : riB c = false) : Calls Tryd.prog 20 #[c.val] w fun e w' => e = .returned (.slice none 0 0) ∧ Kept [] w w' := by
  simp only [Cfg.val]
  have HR : Hid _ := hr
  clear hr
  go_enter Tryd.func20, Tryd.ntmps20
  go_wp2_with fail
  refine (rright_is HR.out _).mono ?_
  rintro e w1 ⟨rfl, K1⟩
  go_wp2
  go_ret
  exact ⟨rfl, ((Kept.refl _ _).alloc _).trans K1⟩
/-- The numbers of a right configuration, as natural numbers, and what its cells are. -/
structure Nums (c : Cfg) (T S C H L : Nat) : Prop where
  nt : c.t = T
  ns : c.s = S
  nc : c.c = C
  nh : c.h = H
  t0 : 1 ≤ T
  t1 : T ≤ 8
  s0 : 1 ≤ S
  s1 : S ≤ 8
  c0 : 1 ≤ C
  c1 : C ≤ 64
  h0 : 1 ≤ H
  h1 : H ≤ 6
  len : lnV c = L
  le : L ≤ 900
  sum : L = 1 + T * S + (C + 1) * (6 + H)
  zero : whV c ((0 : Nat) : Int) = ⟨1, 0, 0⟩
  res : ∀ k j : Nat, k < T → j < S → whV c ((1 + k * S + j : Nat) : Int) = ⟨2, k, j⟩
  resle : ∀ k j : Nat, k ≤ T → j ≤ S → 1 + k * S + j ≤ 100
  fld : ∀ k j : Nat, k ≤ C → j < 6 + H → whV c ((1 + T * S + k * (6 + H) + j : Nat) : Int) = ⟨3, k, j⟩
  fldle : ∀ k j : Nat, k ≤ C + 1 → j ≤ 6 + H → 1 + T * S + k * (6 + H) + j ≤ 900
theorem nums (c : Cfg) (hr : riB c = true) : ∃ T S C H L, Nums c T S C H L := by
  have R := riB_true.1 hr
  obtain ⟨T, hT⟩ : ∃ T : Nat, c.t = T := ⟨c.t.toNat, by have := R.t0; omega⟩
  obtain ⟨S, hS⟩ : ∃ S : Nat, c.s = S := ⟨c.s.toNat, by have := R.s0; omega⟩
  obtain ⟨C, hC⟩ : ∃ C : Nat, c.c = C := ⟨c.c.toNat, by have := R.c0; omega⟩
  obtain ⟨H, hH⟩ : ∃ H : Nat, c.h = H := ⟨c.h.toNat, by have := R.h0; omega⟩
  obtain ⟨t0, t1, s0, s1, c0, c1, h0, h1⟩ : 1 ≤ T ∧ T ≤ 8 ∧ 1 ≤ S ∧ S ≤ 8 ∧ 1 ≤ C ∧ C ≤ 64 ∧ 1 ≤ H ∧ H ≤ 6 := by
    have := R.t0; have := R.t1; have := R.s0; have := R.s1; have := R.c0; have := R.c1; have := R.h0; have := R.h1
    omega
  have hln := ln_yes hr
  rw [hT, hS, hC, hH] at hln
  have hln' : lnV c = ((1 + T * S + (C + 1) * (6 + H) : Nat) : Int) := by rw [hln]; push_cast; rfl
  have mTS : ∀ k, k ≤ T → k * S ≤ 8 * 8 := fun k hk => Nat.mul_le_mul (by omega) s1
  have mCH : ∀ k, k ≤ C + 1 → k * (6 + H) ≤ 65 * 12 := fun k hk => Nat.mul_le_mul (by omega) (by omega)
  refine ⟨T, S, C, H, 1 + T * S + (C + 1) * (6 + H), ⟨hT, hS, hC, hH, t0, t1, s0, s1, c0, c1, h0, h1, hln', ?_, rfl, ?_, ?_, ?_, ?_, ?_⟩⟩
  · have := mTS T (Nat.le_refl _); have := mCH (C + 1) (Nat.le_refl _); omega
  · unfold whV; rw [hln', if_pos ⟨by omega, by omega⟩, if_pos (by omega)]
  · intro k j hk hj
    have q := (res_wh (c := c) (a := k) (b := j) ⟨hr, by omega, by omega, by omega, by omega⟩).1
    rw [hS] at q
    push_cast; exact q
  · intro k j hk hj; have := mTS k hk; omega
  · intro k j hk hj
    have q := (fld_wh (c := c) (a := k) (b := j) ⟨hr, by omega, by omega, by omega, by omega⟩).1
    rw [hS, hT, hH] at q
    push_cast; exact q
  · intro k j hk hj; have := mTS T (Nat.le_refl _); have := mCH k hk; omega
set_option maxRecDepth 100000 in
set_option maxHeartbeats 400000 in
theorem places_yes (c : Cfg) (w : World) (hr : riB c = true) {T S C H L : Nat} (hN : Nums c T S C H L) : Calls Tryd.prog 20 #[c.val] w fun e w' => ∃ g cap, e = .returned (.slice (some ⟨g, 0, none⟩) L cap) ∧ RowG w' g 32 3 (pls c L) cap ∧ Kept [] w w' := by
  have HR : Hid _ := hr
  have HN : Hid (Nums c T S C H L) := hN
  have Z0 := CB.new w c
  simp only [Cfg.val]
  clear hr hN
  go_enter Tryd.func20, Tryd.ntmps20
  go_wp2_with fail
  refine (rright_is HR.out _).mono ?_
  rintro e w1 ⟨rfl, K1⟩
  have Z1 := Z0.kept K1 (by simp)
  have T1' := ((Kept.refl [] w).alloc _).trans K1
  have hb1 : w.heap.size + 1 ≤ w1.heap.size := by have := K1.size; rw [nblk_alloc] at this; exact this
  clear K1 Z0
  obtain ⟨B, hB⟩ : ∃ B, B = w.heap.size := ⟨_, rfl⟩
  obtain ⟨g0, hg0⟩ : ∃ g0, g0 = w1.heap.size := ⟨_, rfl⟩
  go_wp2_with fail
  refine gen_world (fun W => CB W B c ∧ RowG W g0 32 3 (pls c 1) 1 ∧ Kept [] w W) ?_ ?_
  · rw [hB, hg0]
    have r := RowG.new w1 32 3 (pls c 1) 1 (by unfold maxLen; omega) (pls_len c 1)
    have e1 : (pls c 1).toArray = #[.int .i64 1, .int .i64 0, .int .i64 0] := by
      rw [pls_succ, HN.out.zero]; rfl
    rw [e1] at r
    exact ⟨Z1.kept ((Kept.refl [] _).alloc _) (by simp), r, T1'.alloc _⟩
  rintro W ⟨ZW, RW, TW⟩
  rw [← hg0, ← hB]
  have hgB : B + 1 ≤ g0 := by omega
  have hBw : w.heap.size ≤ B := by omega
  clear Z1 T1' hb1 hg0 hB
  have HT : Hid _ := HN.out.nt
  have HS : Hid _ := HN.out.ns
  have HC : Hid _ := HN.out.nc
  have HH : Hid _ := HN.out.nh
  obtain ⟨t0, t1, s0, s1, c0, c1, h0, h1⟩ : 1 ≤ T ∧ T ≤ 8 ∧ 1 ≤ S ∧ S ≤ 8 ∧ 1 ≤ C ∧ C ≤ 64 ∧ 1 ≤ H ∧ H ≤ 6 := ⟨HN.out.t0, HN.out.t1, HN.out.s0, HN.out.s1, HN.out.c0, HN.out.c1, HN.out.h0, HN.out.h1⟩
  go_loopw [3, 4] (fun o t wr => ∃ (k g cap n : Nat), k ≤ T ∧ t = .int .i64 k ∧ n = 1 + k * S ∧ o = .slice (some ⟨g, 0, none⟩) n cap ∧ B + 1 ≤ g ∧ RowG wr g 32 3 (pls c n) cap ∧ CB wr B c ∧ Kept [] w wr) (fun _ t _ => T - (intOf t).toNat)
  case atStart => exact ⟨0, g0, 1, 1, Nat.zero_le _, rfl, by omega, rfl, hgB, RW, ZW, TW⟩
  case round =>
    clear ZW RW TW hgB
    obtain ⟨k, g, cap, n, hk, rfl, hn, rfl, hg, R, Z, K⟩ := hrel
    have HNk : Hid _ := hn
    clear hn
    have q0 : wr.cell? ⟨B, 0, none⟩ = some (.int .i64 (T : Int)) := by rw [← HT.out]; exact cell_of_blk Z (i := 0) rfl
    by_cases hlt : k < T
    · go_wp2
      go_loopw [3, 5] (fun o r wr => ∃ (j g cap n : Nat), j ≤ S ∧ r = .int .i64 j ∧ n = 1 + k * S + j ∧ o = .slice (some ⟨g, 0, none⟩) n cap ∧ B + 1 ≤ g ∧ RowG wr g 32 3 (pls c n) cap ∧ CB wr B c ∧ Kept [] w wr) (fun _ r _ => S - (intOf r).toNat)
      case atStart => exact ⟨0, g, cap, n, Nat.zero_le _, rfl, HNk.out, rfl, hg, R, Z, K⟩
      case round =>
        clear R Z K hg q0 HNk
        obtain ⟨j, g, cap, n, hj, rfl, hn, rfl, hg, R, Z, K⟩ := hrel
        have HNj : Hid _ := hn
        clear hn
        have q1 : wr.cell? ⟨B, 1, none⟩ = some (.int .i64 (S : Int)) := by rw [← HS.out]; exact cell_of_blk Z (i := 1) rfl
        by_cases hlj : j < S
        · obtain ⟨g', cap', w1, hap, hg', R', K'⟩ := append_plc 37 c wr (B + 1) g n cap 2 k j R (by rw [HNj.out]; exact HN.out.res k j hlt hlj) hg (by rw [HNj.out]; have := HN.out.resle k j (by omega) (by omega); omega)
          have Z' := Z.kept K' (by simp; omega)
          have KK := K.then K' (by simp; omega)
          clear Z K K' R
          go_wp2_with (at_builtin; refine wpList_append_run rfl (.tmp 25) (.tmp 29) 37 rfl rfl rfl hap ?_)
          clear hap
          exact ⟨⟨j + 1, g', cap', n + 1, by omega, by go_num, by rw [HNj.out]; omega, rfl, hg', R', Z', KK⟩, by simp [intOf]; omega⟩
        · have ej : j = S := by omega
          have HJ : Hid _ := ej
          clear ej
          go_wp2
          exact ⟨⟨k + 1, g, cap, n, by omega, by go_num, by rw [HNj.out, HJ.out, Nat.succ_mul]; omega, rfl, hg, R, Z, K⟩, by simp [intOf]; omega⟩
    · have ek : k = T := by omega
      have HNk' : Hid (n = 1 + T * S) := by unfold Hid; rw [HNk.out, ek]
      clear ek
      go_wp2
      go_loopw [3, 6] (fun o t wr => ∃ (k g cap n : Nat), k ≤ C + 1 ∧ t = .int .i64 k ∧ n = 1 + T * S + k * (6 + H) ∧ o = .slice (some ⟨g, 0, none⟩) n cap ∧ B + 1 ≤ g ∧ RowG wr g 32 3 (pls c n) cap ∧ CB wr B c ∧ Kept [] w wr) (fun _ t _ => C + 1 - (intOf t).toNat)
      case atStart => exact ⟨0, g, cap, n, Nat.zero_le _, rfl, by rw [HNk'.out]; omega, rfl, hg, R, Z, K⟩
      case round =>
        clear R Z K hg q0 HNk HNk' hlt hk
        obtain ⟨k, g, cap, n, hk, rfl, hn, rfl, hg, R, Z, K⟩ := hrel
        have HNk : Hid _ := hn
        clear hn
        have q2 : wr.cell? ⟨B, 2, none⟩ = some (.int .i64 (C : Int)) := by rw [← HC.out]; exact cell_of_blk Z (i := 2) rfl
        by_cases hlt : k ≤ C
        · go_wp2
          go_loopw [3, 7] (fun o r wr => ∃ (j g cap n : Nat), j ≤ 6 + H ∧ r = .int .i64 j ∧ n = 1 + T * S + k * (6 + H) + j ∧ o = .slice (some ⟨g, 0, none⟩) n cap ∧ B + 1 ≤ g ∧ RowG wr g 32 3 (pls c n) cap ∧ CB wr B c ∧ Kept [] w wr) (fun _ r _ => 6 + H - (intOf r).toNat)
          case atStart => exact ⟨0, g, cap, n, Nat.zero_le _, rfl, HNk.out, rfl, hg, R, Z, K⟩
          case round =>
            clear R Z K hg q2 HNk
            obtain ⟨j, g, cap, n, hj, rfl, hn, rfl, hg, R, Z, K⟩ := hrel
            have HNj : Hid _ := hn
            clear hn
            have q3 : wr.cell? ⟨B, 3, none⟩ = some (.int .i64 (H : Int)) := by rw [← HH.out]; exact cell_of_blk Z (i := 3) rfl
            by_cases hlj : j < 6 + H
            · obtain ⟨g', cap', w1, hap, hg', R', K'⟩ := append_plc 37 c wr (B + 1) g n cap 3 k j R (by rw [HNj.out]; exact HN.out.fld k j hlt hlj) hg (by rw [HNj.out]; have := HN.out.fldle k j (by omega) (by omega); omega)
              have Z' := Z.kept K' (by simp; omega)
              have KK := K.then K' (by simp; omega)
              clear Z K K' R
              go_wp2_with (at_builtin; refine wpList_append_run rfl (.tmp 44) (.tmp 48) 37 rfl rfl rfl hap ?_)
              clear hap
              exact ⟨⟨j + 1, g', cap', n + 1, by omega, by go_num, by rw [HNj.out]; omega, rfl, hg', R', Z', KK⟩, by simp [intOf]; omega⟩
            · have ej : j = 6 + H := by omega
              have HJ : Hid _ := ej
              clear ej
              go_wp2
              exact ⟨⟨k + 1, g, cap, n, by omega, by go_num, by rw [HNj.out, HJ.out, Nat.succ_mul]; omega, rfl, hg, R, Z, K⟩, by simp [intOf]; omega⟩
        · have ek : k = C + 1 := by omega
          have HNk' : Hid (n = L) := by unfold Hid; rw [HNk.out, ek, HN.out.sum]
          clear ek
          go_wp2
          go_ret
          exact ⟨g, cap, by rw [← HNk'.out]; rfl, by rw [← HNk'.out]; exact R, K⟩
end Go.Proofs.YtgbgaphmoemokaaDoor
