/-
  The contracts that the statements of seq lean on: Gets.
-/
import Derived.Test.YtapbkonfjieadaaQLaw2
import Derived.Test.YtapbkonfjieadaaQDo1x
namespace Go.Proofs.Ytapbkonfjieadaa.Q
set_option maxRecDepth 100000
open Go.RowKit
open Go.Deep
theorem getx_any (ao : Option Addr) (ps : List Pr) (n cap : Nat) (k : Int) (w : World) (h : MpV w ao n cap ps) (hst : Str ps) (hw : Wd ps) (hl : n ≤ 1000) :
    Calls Try.prog 17 #[.agg #[.slice ao n cap], .agg #[.int .i64 1, .int .u64 k, .int .u64 0, .int .i64 0, .int .i64 0]] w fun o w' => o = .returned (.tuple #[.agg #[.slice ao n cap], .agg #[.bool false, .bool (gtH ps k), .int .u64 (gtV ps k), .slice none 0 0]]) ∧ Kept [] w w' := by
  have := do_getx ao ps n cap ⟨1, k, 0, 0, 0⟩ w h hst hw hl rfl
  rw [show doH ps ⟨1, k, 0, 0, 0⟩ = gtH ps k from rfl, show doG ps ⟨1, k, 0, 0, 0⟩ = gtV ps k from rfl] at this
  exact this
set_option maxHeartbeats 1000000 in
theorem get1_any (ao : Option Addr) (ps : List Pr) (n cap : Nat) (k : Int) (w : World) (h : MpV w ao n cap ps) (hst : Str ps) (hw : Wd ps) (hl : n ≤ 1000) :
    Calls Try.prog 21 #[.agg #[.slice ao n cap], .int .u64 k] w fun o w' => o = .returned (.agg #[.bool false, .bool (gtH ps k), .int .u64 (gtV ps k), .slice none 0 0]) ∧ Kept [] w w' := by
  have K0 : Kept [] w ((w.alloc (.cells #[.slice ao n cap] 26)).alloc (.cells #[.bool false, .bool false, .int .u64 0, .slice none 0 0] 41)) := ((Kept.refl _ _).alloc _).alloc _
  have Z0 := blk_alloc_new (w.alloc (.cells #[.slice ao n cap] 26)) (.cells #[.bool false, .bool false, .int .u64 0, .slice none 0 0] 41)
  rw [nblk_alloc] at Z0
  have hc := getx_any ao ps n cap k _ (h.new K0) hst hw hl
  generalize gtH ps k = A at hc ⊢
  generalize gtV ps k = G at hc ⊢
  clear h
  go_enter Try.func21, Try.ntmps21
  go_wp2_with fail
  refine hc.mono ?_
  clear hc
  rintro o w1 ⟨rfl, K1⟩
  have Z1 := K1.blk Z0 (by simp)
  have hlt := lt_of_blk Z1
  have q0 := cell_of_blk Z1 (i := 0) rfl
  have q1 := cell_of_blk Z1 (i := 1) rfl
  have q2 := cell_of_blk Z1 (i := 2) rfl
  have q3 := cell_of_blk Z1 (i := 3) rfl
  have fr := free_of_blk Z1
  have KB : Kept [] w1 ((w1.alloc (.cells #[.slice ao n cap] 26)).alloc (.cells #[.bool false, .bool A, .int .u64 G, .slice none 0 0] 41)) := ((Kept.refl _ _).alloc _).alloc _
  have Z2 := KB.blk Z1 (by simp)
  go_upto_region 2 with (fail)
  obtain ⟨R, hR⟩ : ∃ R, R = w1.heap.size + 1 := ⟨_, rfl⟩
  obtain ⟨H, hH⟩ : ∃ H, H = w.heap.size + 1 := ⟨_, rfl⟩
  have Z3 := blk_alloc_new (w1.alloc (.cells #[.slice ao n cap] 26)) (.cells #[.bool false, .bool A, .int .u64 G, .slice none 0 0] 41)
  rw [nblk_alloc, ← hR] at Z3
  rw [← hR, ← hH]
  rw [← hH] at Z2
  have hne : ¬ R = H := by omega
  refine gen_world (fun W => W.heap[H]? = some (.cells #[.bool false, .bool false, .int .u64 0, .slice none 0 0] 41 (0, 0)) ∧ W.heap[R]? = some (.cells #[.bool false, .bool A, .int .u64 G, .slice none 0 0] 41 (0, 0)) ∧ Kept [] w W) ⟨Z2, Z3, (K0.trans K1).trans KB⟩ ?_
  have HH : Hid _ := hH
  clear Z0 Z1 Z2 Z3 K0 K1 KB q0 q1 q2 q3 fr hlt hR hH
  rintro W ⟨ZH, ZR, K⟩
  have r0 := cell_of_blk ZR (i := 0) rfl
  have r1 := cell_of_blk ZR (i := 1) rfl
  have r2 := cell_of_blk ZR (i := 2) rfl
  have r3 := cell_of_blk ZR (i := 3) rfl
  have q0 := cell_of_blk ZH (i := 0) rfl
  have q1 := cell_of_blk ZH (i := 1) rfl
  have q2 := cell_of_blk ZH (i := 2) rfl
  have q3 := cell_of_blk ZH (i := 3) rfl
  have fr := free_of_blk ZH
  go_wp2
  have Z5 := blk_set (blk_set (blk_set (blk_set ZH 0 (.bool false)) 1 (.bool A)) 2 (.int .u64 G)) 3 (.slice none 0 0)
  have y0 := cell_of_blk Z5 (i := 0) rfl
  have y1 := cell_of_blk Z5 (i := 1) rfl
  have y2 := cell_of_blk Z5 (i := 2) rfl
  have y3 := cell_of_blk Z5 (i := 3) rfl
  have hle : w.heap.size ≤ H := by have := HH.out; omega
  exact bodyPost_ret (v := .agg #[.bool false, .bool A, .int .u64 G, .slice none 0 0]) (by simp [results, Try.results21, go_sem, y0, y1, y2, y3]) rfl ⟨rfl, (((K.setCell (Or.inr hle) _).setCell (Or.inr hle) _).setCell (Or.inr hle) _).setCell (Or.inr hle) _⟩
/-- A map that is as it should be. -/
def Good (w : World) (ao : Option Addr) (n cap : Nat) (ps : List Pr) : Prop := MpV w ao n cap ps ∧ Str ps ∧ Wd ps ∧ n ≤ 1000
theorem Good.new {w w' : World} {ao : Option Addr} {n cap : Nat} {ps : List Pr} (h : Good w ao n cap ps) (k : Kept [] w w') : Good w' ao n cap ps := ⟨h.1.new k, h.2⟩
theorem get1_kw {W : World} {ao : Option Addr} {n cap : Nat} {ps : List Pr} {x : Int} {A : Bool} {G : Int} (hm : Hid (Good W ao n cap ps)) (hr : Hid (gtH ps x = A ∧ gtV ps x = G)) (p : KW W) :
    Calls Try.prog 21 #[.agg #[.slice ao n cap], .int .u64 x] p.val fun o w'' => o = .returned (.agg #[.bool false, .bool A, .int .u64 G, .slice none 0 0]) ∧ ∃ q : KW W, w'' = q.val := by
  obtain ⟨h1, h2⟩ := hr.out
  subst h1 h2
  exact Calls.kw_of (get1_any ao ps n cap x p.val (hm.out.1.new p.kept) hm.out.2.1 hm.out.2.2.1 hm.out.2.2.2)
theorem gt_wi_other {ps : List Pr} {p : Pr} {k : Int} (h : ¬ p.k = k) : gtH (wi ps p) k = gtH ps k ∧ gtV (wi ps p) k = gtV ps k := by
  unfold gtH gtV; rw [fd_wi, if_neg h]; exact ⟨rfl, rfl⟩
theorem gt_wi_self (ps : List Pr) (p : Pr) : gtH (wi ps p) p.k = true ∧ gtV (wi ps p) p.k = p.v := by
  unfold gtH gtV; rw [fd_wi, if_pos rfl]; exact ⟨rfl, rfl⟩
theorem gt_wo_other {ps : List Pr} {j k : Int} (h : ¬ j = k) : gtH (wo ps j) k = gtH ps k ∧ gtV (wo ps j) k = gtV ps k := by
  unfold gtH gtV; rw [fd_wo, if_neg h]; exact ⟨rfl, rfl⟩
theorem gt_wo_self (ps : List Pr) (j : Int) : gtH (wo ps j) j = false ∧ gtV (wo ps j) j = 0 := by
  unfold gtH gtV; rw [fd_wo, if_pos rfl]; exact ⟨rfl, rfl⟩
theorem ans_nil (W : World) : AnsP W none 0 [] := ⟨rfl, fun h => absurd h (by simp), by omega⟩
end Go.Proofs.Ytapbkonfjieadaa.Q
