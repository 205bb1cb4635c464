/-
  The contracts of what a key has, of a map with a pair, and without a key.
-/
import Derived.Test.YtapbkonfjieadaaQPart
namespace Go.Proofs.Ytapbkonfjieadaa.Q
set_option maxRecDepth 100000
open Go.RowKit
open Go.Deep
/-- A store into a map's own block leaves pairs as they are. -/
theorem SlP.setMap {w : World} {ao : Option Addr} {es : List Pr} (h : SlP w ao es) {B : Nat} {a : Option Addr} {n c : Nat} {T : TypeId} (Z : w.heap[B]? = some (.cells #[.slice a n c] T (0, 0))) (u : Value) : SlP (w.setCell ⟨B, 0, none⟩ u) ao es := by
  intro h0
  obtain ⟨b, off, rfl, hb, hc⟩ := h h0
  have hne : b ≠ B := by
    rintro rfl
    have := hc 0 h0 0 _ rfl
    simp [World.cell?, Z] at this
    cases e : off with
    | zero => rw [e] at this; simp at this
    | succ o => rw [e] at this; simp at this
  refine ⟨b, off, rfl, by rw [nblk_setCell]; exact hb, fun i hi j v hv => ?_⟩
  rw [World.cell?_of_block (w := w) (a := ⟨b, off + i * 2 + j, none⟩) (blk_setCell_other _ _ _ _ (fun e => hne e))]
  exact hc i hi j v hv
/-- Has a key a value, and which? -/
def gtH (ps : List Pr) (k : Int) : Bool := (fd ps k).isSome
def gtV (ps : List Pr) (k : Int) : Int := match fd ps k with | some p => p.v | none => 0
set_option maxHeartbeats 1000000 in
theorem get_any (ao : Option Addr) (ps : List Pr) (n cap : Nat) (k : Int) (w : World) (h : MpV w ao n cap ps) (hst : Str ps) (hl : n ≤ 1000) :
    Calls Try.prog 29 #[.agg #[.slice ao n cap], .int .u64 k] w fun o w' => o = .returned (.agg #[.bool false, .bool (gtH ps k), .int .u64 (gtV ps k), .slice none 0 0]) ∧ Kept [] w w' := by
  have K0 : Kept [] w ((w.alloc (.cells #[.slice ao n cap] 26)).alloc (.cells #[.bool false, .bool false, .int .u64 0, .slice none 0 0] 41)) := ((Kept.refl _ _).alloc _).alloc _
  have Z0 := blk_alloc_new (w.alloc (.cells #[.slice ao n cap] 26)) (.cells #[.bool false, .bool false, .int .u64 0, .slice none 0 0] 41)
  rw [nblk_alloc] at Z0
  have hc := parted_any ao ps n cap k _ (h.new K0) hst hl
  clear h
  go_enter Try.func29, Try.ntmps29
  go_wp2_with fail
  refine hc.mono ?_
  rintro o w1 ⟨a1, n1, a2, n2, a3, n3, c3, rfl, ⟨e1, S1⟩, ⟨e2, S2⟩, ⟨e3, S3, _⟩, K1⟩
  have Z1 := K1.blk Z0 (by simp)
  have KT := K0.trans K1
  have q0 := cell_of_blk Z1 (i := 0) rfl
  have q1 := cell_of_blk Z1 (i := 1) rfl
  have q2 := cell_of_blk Z1 (i := 2) rfl
  have q3 := cell_of_blk Z1 (i := 3) rfl
  have fr := free_of_blk Z1
  clear hc K0 K1 Z0 e1 S1 e3 S3
  unfold own at e2 S2
  cases hf : fd ps k with
  | none =>
    rw [hf] at e2 S2
    simp at e2
    subst e2
    clear S2
    go_wp2
    have Z5 := blk_set (blk_set (blk_set (blk_set Z1 0 (.bool false)) 1 (.bool false)) 2 (.int .u64 0)) 3 (.slice none 0 0)
    have y0 := cell_of_blk Z5 (i := 0) rfl
    have y1 := cell_of_blk Z5 (i := 1) rfl
    have y2 := cell_of_blk Z5 (i := 2) rfl
    have y3 := cell_of_blk Z5 (i := 3) rfl
    exact bodyPost_ret (v := .agg #[.bool false, .bool false, .int .u64 0, .slice none 0 0]) (by simp [results, Try.results29, go_sem, y0, y1, y2, y3]) rfl ⟨by unfold gtH gtV; rw [hf]; rfl, (((KT.setCell (Or.inr (Nat.le_succ _)) _).setCell (Or.inr (Nat.le_succ _)) _).setCell (Or.inr (Nat.le_succ _)) _).setCell (Or.inr (Nat.le_succ _)) _⟩
  | some p =>
    rw [hf] at e2 S2
    simp at e2
    subst e2
    obtain ⟨b1, o1, rfl, _, c0, c1⟩ := SlP.row S2 (k := 0) (by simp)
    simp at c0 c1
    clear S2
    go_wp2
    have Z5 := blk_set (blk_set (blk_set (blk_set Z1 0 (.bool false)) 1 (.bool true)) 2 (.int .u64 p.v)) 3 (.slice none 0 0)
    have y0 := cell_of_blk Z5 (i := 0) rfl
    have y1 := cell_of_blk Z5 (i := 1) rfl
    have y2 := cell_of_blk Z5 (i := 2) rfl
    have y3 := cell_of_blk Z5 (i := 3) rfl
    exact bodyPost_ret (v := .agg #[.bool false, .bool true, .int .u64 p.v, .slice none 0 0]) (by simp [results, Try.results29, go_sem, y0, y1, y2, y3]) rfl ⟨by unfold gtH gtV; rw [hf]; rfl, (((KT.setCell (Or.inr (Nat.le_succ _)) _).setCell (Or.inr (Nat.le_succ _)) _).setCell (Or.inr (Nat.le_succ _)) _).setCell (Or.inr (Nat.le_succ _)) _⟩
theorem parts_len (ps : List Pr) (k : Int) : (blw ps k).length ≤ ps.length ∧ (abv ps k).length ≤ ps.length := ⟨List.length_filter_le _ _, List.length_filter_le _ _⟩
set_option maxHeartbeats 1000000 in
theorem without_any (ao : Option Addr) (ps : List Pr) (n cap : Nat) (k : Int) (w : World) (h : MpV w ao n cap ps) (hst : Str ps) (hl : n ≤ 1000) :
    Calls Try.prog 31 #[.agg #[.slice ao n cap], .int .u64 k] w fun o w' => ∃ bo m cb, o = .returned (.agg #[.slice bo m cb]) ∧ MpV w' bo m cb (wo ps k) ∧ Kept [] w w' := by
  have K0 : Kept [] w ((w.alloc (.cells #[.slice ao n cap] 26)).alloc (.cells #[.slice none 0 0] 26)) := ((Kept.refl _ _).alloc _).alloc _
  have Z0 := blk_alloc_new (w.alloc (.cells #[.slice ao n cap] 26)) (.cells #[.slice none 0 0] 26)
  rw [nblk_alloc] at Z0
  have hc := parted_any ao ps n cap k _ (h.new K0) hst hl
  have hle := parts_len ps k
  rw [← h.1] at hle
  clear h
  go_enter Try.func31, Try.ntmps31
  go_wp2_with fail
  refine hc.mono ?_
  rintro o w1 ⟨a1, n1, a2, n2, a3, n3, c3, rfl, ⟨e1, S1⟩, ⟨e2, S2⟩, ⟨e3, S3, h3⟩, K1⟩
  have Z1 := K1.blk Z0 (by simp)
  have KT := K0.trans K1
  obtain ⟨co, c', w2, hap, S4, l1, l2, _, K2⟩ := append_full 24 Try.underlying24 info_seq w1 a1 a3 (blw ps k) (abv ps k) n1 n3 c3 e1 e3 S1 S3 (by omega) (by omega)
  have Z2 := K2.blk Z1 (by simp)
  have KF := KT.trans K2
  have q0 := cell_of_blk Z2 (i := 0) rfl
  have q1 := free_of_blk Z2 0
  have HM : Hid (n1 + n3 = (wo ps k).length ∧ SlP w2 co (wo ps k) ∧ n1 + n3 ≤ c' ∧ (co = none → c' = 0)) := ⟨by unfold wo; rw [List.length_append, e1, e3], S4, l1, l2⟩
  clear hc K0 K1 Z0 Z1 KT K2 e1 e2 e3 S1 S2 S3 S4 l1 l2 h3 hle
  go_wp2_with (at_builtin; refine wpList_append_run rfl (.tmp 15) (.tmp 16) 24 rfl rfl rfl hap ?_)
  have Z5 := blk_set Z2 0 (.slice co (n1 + n3) c')
  have y0 := cell_of_blk Z5 (i := 0) rfl
  refine bodyPost_ret (v := .agg #[.slice co (n1 + n3) c']) (by simp [results, Try.results31, go_sem, y0]) rfl ⟨co, n1 + n3, c', rfl, ⟨HM.out.1, ?_, HM.out.2.2⟩, KF.setCell (Or.inr (Nat.le_succ _)) _⟩
  exact SlP.setMap HM.out.2.1 Z2 _
set_option maxHeartbeats 1000000 in
theorem with_any (ao : Option Addr) (ps : List Pr) (n cap : Nat) (p : Pr) (w : World) (h : MpV w ao n cap ps) (hst : Str ps) (hl : n ≤ 1000) :
    Calls Try.prog 30 #[.agg #[.slice ao n cap], .agg #[.int .u64 p.k, .int .u64 p.v]] w fun o w' => ∃ bo m cb, o = .returned (.agg #[.slice bo m cb]) ∧ MpV w' bo m cb (wi ps p) ∧ Kept [] w w' := by
  have K0 : Kept [] w (((w.alloc (.cells #[.slice ao n cap] 26)).alloc (.cells #[.int .u64 p.k, .int .u64 p.v] 52)).alloc (.cells #[.slice none 0 0] 26)) := (((Kept.refl _ _).alloc _).alloc _).alloc _
  have Z0 := blk_alloc_new ((w.alloc (.cells #[.slice ao n cap] 26)).alloc (.cells #[.int .u64 p.k, .int .u64 p.v] 52)) (.cells #[.slice none 0 0] 26)
  have Y0 := ((Kept.refl [] ((w.alloc (.cells #[.slice ao n cap] 26)).alloc (.cells #[.int .u64 p.k, .int .u64 p.v] 52))).alloc (.cells #[.slice none 0 0] 26)).blk (blk_alloc_new (w.alloc (.cells #[.slice ao n cap] 26)) (.cells #[.int .u64 p.k, .int .u64 p.v] 52)) (by simp)
  rw [nblk_alloc, nblk_alloc] at Z0
  rw [nblk_alloc] at Y0
  have hc := parted_any ao ps n cap p.k _ (h.new K0) hst hl
  have hle := parts_len ps p.k
  rw [← h.1] at hle
  clear h
  go_enter Try.func30, Try.ntmps30
  go_wp2_with fail
  refine hc.mono ?_
  rintro o w1 ⟨a1, n1, a2, n2, a3, n3, c3, rfl, ⟨e1, S1⟩, ⟨e2, S2⟩, ⟨e3, S3, h3⟩, K1⟩
  have Z1 := K1.blk Z0 (by simp)
  have Y1 := K1.blk Y0 (by simp)
  have KT := K0.trans K1
  have KA : Kept [] w1 (w1.alloc (.cells #[.int .u64 p.k, .int .u64 p.v] 52)) := (Kept.refl _ _).alloc _
  have SB : SlP (w1.alloc (.cells #[.int .u64 p.k, .int .u64 p.v] 52)) (some ⟨w1.heap.size, 0, none⟩) [p] := own_cell (blk_alloc_new _ _) rfl rfl
  obtain ⟨co, c', w2, hap, S4, _, _, O4, K2⟩ := append_full 24 Try.underlying24 info_seq _ a1 (some ⟨w1.heap.size, 0, none⟩) (blw ps p.k) [p] n1 1 1 e1 rfl (S1.new KA) SB (by omega) (by omega)
  have O5 := O4 (by omega)
  have KA2 := KA.trans K2
  obtain ⟨u, w3, hap2, O6, K3⟩ := append_own 24 Try.underlying24 info_seq w2 _ _ a3 (blw ps p.k ++ [p]) (abv ps p.k) n3 c3 e3 O5 (S3.new KA2) h3 K2.size (by rw [List.length_append]; simp; omega) (by omega)
  have KB := Kept.ofOwn KA2 O5 (by rw [nblk_alloc]; omega) K3
  have Z2 := KB.blk Z1 (by simp)
  have KF := KT.trans KB
  obtain ⟨bo, cb, rfl, S7, l1, l2⟩ := O6.shape
  have ew : blw ps p.k ++ [p] ++ abv ps p.k = wi ps p := by unfold wi; simp
  rw [ew] at S7 l1 hap2
  have HM : Hid (SlP w3 bo (wi ps p) ∧ (wi ps p).length ≤ cb ∧ (bo = none → cb = 0)) := ⟨S7, l1, l2⟩
  obtain ⟨m, hm⟩ : ∃ m, m = (wi ps p).length := ⟨_, rfl⟩
  rw [← hm] at hap2
  have EM : Hid _ := hm
  have q0 := cell_of_blk Z2 (i := 0) rfl
  have q1 := free_of_blk Z2 0
  have y0 := cell_of_blk Y1 (i := 0) rfl
  have y1 := cell_of_blk Y1 (i := 1) rfl
  clear hc K0 K1 Z0 Z1 Y0 Y1 KT K2 K3 KA KA2 KB e1 e2 e3 S1 S2 S3 S4 S7 SB O4 O5 O6 l1 l2 h3 hle ew hm
  go_wp2_with (first
    | (at_builtin; refine wpList_append_run rfl (.tmp 16) (.tmp 18) 24 rfl rfl rfl hap ?_)
    | (at_builtin; refine wpList_append_run rfl (.tmp 19) (.tmp 20) 24 rfl rfl rfl hap2 ?_))
  have Z5 := blk_set Z2 0 (.slice bo m cb)
  have y5 := cell_of_blk Z5 (i := 0) rfl
  refine bodyPost_ret (v := .agg #[.slice bo m cb]) (by simp [results, Try.results30, go_sem, y5]) rfl ⟨bo, m, cb, rfl, ⟨EM.out, ?_, by rw [EM.out]; exact HM.out.2.1, HM.out.2.2⟩, KF.setCell (Or.inr (by show _ ≤ w.heap.size + 1 + 1; omega)) _⟩
  exact SlP.setMap HM.out.1 Z2 _
end Go.Proofs.Ytapbkonfjieadaa.Q
